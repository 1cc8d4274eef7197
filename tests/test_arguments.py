"""Arguments [0.2]: what is no argument of its kind, the order of the errors, names, and that nothing is changed."""

import inspect
import itertools
import unittest

from fairqueue.admission import admitted, calls_holds, judge_calls, promises
from fairqueue.buckets import bucket_holds, judge_bucket, shaped
from fairqueue.clock import clock, moment_of, tags
from fairqueue.close import close_holds, extremes, is_close, judge_close, lateness
from fairqueue.errors import (
    BadArrivals,
    BadBucket,
    BadCalls,
    BadFlow,
    BadMoment,
    BadNumber,
    BadPackets,
    BadRow,
    BadRule,
    BadSchedule,
    BadState,
    BadWeights,
)
from fairqueue.fair import eligible, schedule
from fairqueue.flows import is_arrivals, longest, own_longest, share
from fairqueue.ideal import busy, ideal_ends, ideal_given
from fairqueue.live import Line, continued
from fairqueue.rows import row_bound, through
from fairqueue.rules import made_ahead, made_behind, schedule_by
from fairqueue.schedules import ends, is_busy, is_schedule, sent
from fairqueue.texts import written
from fairqueue.waits import full_ahead, full_arrivals, near_behind, wait_bound, waits
from tests.support import (
    BIG,
    FAIR,
    FRACTIONS,
    LINE,
    NOT_ARRIVALS,
    NOT_ARRIVALS_FOR_SOME,
    NOT_BUCKETS,
    NOT_CALLS,
    NOT_FLOWS,
    NOT_FLOWS_OF_SOME,
    NOT_FRACTIONS,
    NOT_NUMBERS,
    NOT_PACKETS,
    NOT_ROWS,
    NOT_RULES,
    NOT_SCHEDULES,
    NOT_STATES,
    NOT_WEIGHTS,
    ROWS,
    RULES,
    SLOW,
    SOME,
    SOME_PACKETS,
    STATES,
    TWO,
    caught,
    same,
    shown,
    unchanged,
)


class Kind:
    """A kind of argument: its error, right values, wrong ones, and a few wrong ones for use with others."""

    def __init__(self, error, right, wrong, few):
        self.error, self.right, self.wrong, self.few = error, right, wrong, few


# The few wrong values are new objects, so that it shows which one the error has.
WEIGHTS = Kind(BadWeights, (TWO, (1, 3)), NOT_WEIGHTS, ([2, 1], (2, 0), None, LINE))
ARRIVALS = Kind(BadArrivals, (SOME,), NOT_ARRIVALS, ([(0, 0, 2)], ((0, 2, 1),), SOME[::-1], (LINE,)))
ARRIVALS_FOR_SOME = Kind(
    BadArrivals, (SOME,), NOT_ARRIVALS_FOR_SOME, ([(0, 0, 2)], ((0, -1, 1),), SOME[::-1], None)
)
SCHEDULE = Kind(BadSchedule, (FAIR, SLOW), NOT_SCHEDULES, (list(FAIR), FAIR[:2], None))
MOMENT = Kind(BadMoment, FRACTIONS, NOT_FRACTIONS, ([1, 2], (2, 4), (-1, 1), 1, None))
VALUE = Kind(BadNumber, FRACTIONS, NOT_FRACTIONS, ([1, 2], (2, 4), (-1, 1), 1, None))
FLOW = Kind(BadFlow, (0, 1), NOT_FLOWS, (2, -1, [0], None))
FLOW_OF_SOME = Kind(BadFlow, (0, 1, 2, 9, BIG), NOT_FLOWS_OF_SOME, (-1, [0], None))
BUCKET = Kind(BadBucket, ((3, (1, 2)), (200, (1, 100))), NOT_BUCKETS, ([3, (1, 2)], (0, (1, 2)), (3, (2, 4)), None))
NUMBER = Kind(BadNumber, (1, 2, 7, 19), NOT_NUMBERS, (0, -3, [1], (1, 1), None))
ROW = Kind(BadRow, ROWS[:3], NOT_ROWS, ([(TWO, ())], (), ((TWO, ((0, 0, 2),)),), LINE))
PACKETS = Kind(BadPackets, SOME_PACKETS, NOT_PACKETS, ([(0, 2)], ((1, 2), (0, 2)), None))
CALLS = Kind(BadCalls, (((2, 4, 8), (1, 1, 5)), ()), NOT_CALLS, ([(2, 4, 8)], ((2, 4),), {1: LINE}))
RULE = Kind(BadRule, RULES, NOT_RULES, (["fair"], {"fair": LINE}, "fare", None))
STATE = Kind(BadState, STATES, NOT_STATES, ([TWO, (), (), 0], (TWO, (), (), -1), LINE))
THING = Kind(None, (FAIR, SLOW, None, [1], {2: 3}, LINE, ("close",), ("late", 0), ("kept",), ("in",)), (), ())

PARAMETERS = {
    is_arrivals: {"weights": WEIGHTS, "thing": THING},
    share: {"weights": WEIGHTS, "flow": FLOW},
    longest: {"weights": WEIGHTS, "arrivals": ARRIVALS},
    own_longest: {"weights": WEIGHTS, "arrivals": ARRIVALS, "flow": FLOW},
    written: {"weights": WEIGHTS, "arrivals": ARRIVALS},
    ideal_ends: {"weights": WEIGHTS, "arrivals": ARRIVALS},
    ideal_given: {"weights": WEIGHTS, "arrivals": ARRIVALS, "moment": MOMENT},
    busy: {"weights": WEIGHTS, "arrivals": ARRIVALS},
    clock: {"weights": WEIGHTS, "arrivals": ARRIVALS, "moment": MOMENT},
    tags: {"weights": WEIGHTS, "arrivals": ARRIVALS},
    moment_of: {"weights": WEIGHTS, "arrivals": ARRIVALS, "value": VALUE},
    schedule: {"weights": WEIGHTS, "arrivals": ARRIVALS},
    eligible: {"weights": WEIGHTS, "arrivals": ARRIVALS, "moment": MOMENT},
    is_schedule: {"weights": WEIGHTS, "arrivals": ARRIVALS, "thing": THING},
    is_busy: {"weights": WEIGHTS, "arrivals": ARRIVALS, "schedule": SCHEDULE},
    ends: {"weights": WEIGHTS, "arrivals": ARRIVALS, "schedule": SCHEDULE},
    sent: {"weights": WEIGHTS, "arrivals": ARRIVALS, "schedule": SCHEDULE, "moment": MOMENT},
    extremes: {"weights": WEIGHTS, "arrivals": ARRIVALS, "schedule": SCHEDULE},
    lateness: {"weights": WEIGHTS, "arrivals": ARRIVALS, "schedule": SCHEDULE},
    judge_close: {"weights": WEIGHTS, "arrivals": ARRIVALS, "schedule": SCHEDULE},
    close_holds: {"weights": WEIGHTS, "arrivals": ARRIVALS, "schedule": SCHEDULE, "thing": THING},
    is_close: {"weights": WEIGHTS, "arrivals": ARRIVALS, "schedule": SCHEDULE},
    judge_bucket: {"arrivals": ARRIVALS_FOR_SOME, "flow": FLOW_OF_SOME, "bucket": BUCKET},
    bucket_holds: {"arrivals": ARRIVALS_FOR_SOME, "flow": FLOW_OF_SOME, "bucket": BUCKET, "thing": THING},
    shaped: {"arrivals": ARRIVALS_FOR_SOME, "flow": FLOW_OF_SOME, "bucket": BUCKET},
    waits: {"arrivals": ARRIVALS_FOR_SOME, "schedule": SCHEDULE},
    wait_bound: {"weights": WEIGHTS, "flow": FLOW, "burst": NUMBER, "longest": NUMBER},
    full_arrivals: {"weights": WEIGHTS, "flow": FLOW, "burst": NUMBER},
    near_behind: {"k": NUMBER},
    full_ahead: {"weights": WEIGHTS, "flow": FLOW, "length": NUMBER},
    through: {"row": ROW, "packets": PACKETS},
    row_bound: {"row": ROW, "burst": NUMBER, "longest": NUMBER},
    judge_calls: {"calls": CALLS, "longest": NUMBER},
    calls_holds: {"calls": CALLS, "longest": NUMBER, "thing": THING},
    promises: {"calls": CALLS, "longest": NUMBER},
    admitted: {"calls": CALLS, "longest": NUMBER},
    schedule_by: {"rule": RULE, "weights": WEIGHTS, "arrivals": ARRIVALS},
    made_ahead: {"n": NUMBER},
    made_behind: {"n": NUMBER},
    Line: {"weights": WEIGHTS},
    continued: {"state": STATE},
}


def seen(result):
    """What is to be equal of two results of the same call: each line that is made is a new one, in the same state."""
    return result.state() if isinstance(result, Line) else result


def right_values(call):
    """A right value for each parameter of the call, by its name."""
    return {name: kind.right[0] for name, kind in PARAMETERS[call].items()}


class TestArguments(unittest.TestCase):
    def raised(self, error, thing, call, /, *values, **named):
        with self.subTest(call=call.__name__, values=values, named=named):
            found = caught(call, *values, **named)
            self.assertIs(type(found), error)
            self.assertIs(found.thing, thing)

    def test_the_parameters_are_those_of_the_interface(self):
        for call, kinds in PARAMETERS.items():
            with self.subTest(call.__name__):
                self.assertEqual(list(inspect.signature(call).parameters), list(kinds))

    def test_one_wrong_value(self):
        for call, kinds in PARAMETERS.items():
            for name, kind in kinds.items():
                for thing in kind.wrong:
                    named = {**right_values(call), name: thing}
                    self.raised(kind.error, thing, call, *named.values())

    def test_one_wrong_value_by_name(self):
        for call, kinds in PARAMETERS.items():
            for name, kind in kinds.items():
                for thing in kind.few:
                    named = {**right_values(call), name: thing}
                    self.raised(kind.error, thing, call, **dict(reversed(list(named.items()))))

    def test_several_wrong_values_raise_the_error_of_the_first(self):
        for call, kinds in PARAMETERS.items():
            choices = [kind.right[:1] + kind.few for kind in kinds.values()]
            for values in itertools.product(*choices):
                wrong = [kind for kind, value in zip(kinds.values(), values) if value in kind.few]
                if wrong:
                    thing = [value for kind, value in zip(kinds.values(), values) if value in kind.few][0]
                    named = dict(reversed(list(zip(kinds, values))))
                    self.raised(wrong[0].error, thing, call, *values)
                    self.raised(wrong[0].error, thing, call, **named)

    def test_the_same_value_for_all(self):
        for call, kinds in PARAMETERS.items():
            for thing in (None, True, -1, "", [], {}, [[2], 1]):
                self.raised(list(kinds.values())[0].error, thing, call, *[thing for _ in kinds])

    def test_values_that_are_right_for_other_weights(self):
        third = ((0, 2, 1),)
        self.assertEqual(tags((1, 1, 1), third), (((0, 1), (1, 1)),))
        for call, kinds in PARAMETERS.items():
            if "weights" in kinds and "arrivals" in kinds:
                self.raised(BadArrivals, third, call, **{**right_values(call), "arrivals": third})
            if "weights" in kinds and "flow" in kinds:
                self.raised(BadFlow, 2, call, **{**right_values(call), "flow": 2})
            if "weights" in kinds and "flow" in kinds and "arrivals" not in kinds:
                self.raised(BadFlow, 1, call, **{**right_values(call), "weights": (5,), "flow": 1})

    def test_without_weights_arrivals_may_be_those_of_any(self):
        many = ((0, 2, 1), (0, BIG, 1))
        self.assertEqual(waits(many, ((1, 0), (0, 1))), (2, 1))
        for call in (judge_bucket, bucket_holds, shaped):
            found = call(**{**right_values(call), "arrivals": many})
            self.assertTrue(same(found, {judge_bucket: ("kept",), bucket_holds: False, shaped: many}[call]))

    def test_schedules_of_other_arrivals(self):
        for call, kinds in PARAMETERS.items():
            if "schedule" not in kinds:
                continue
            for arrivals, pairs in (
                (SOME[:2], FAIR),
                (((1, 0, 2),) + SOME[2:] * 2, FAIR),
                ((), FAIR),
                (SOME, ()),
            ):
                self.raised(BadSchedule, pairs, call, **{**right_values(call), "arrivals": arrivals, "schedule": pairs})

    def test_no_packets_are_no_excuse(self):
        for call, kinds in PARAMETERS.items():
            named = right_values(call)
            named.update({name: () for name in ("arrivals", "schedule") if name in kinds})
            for name, kind in kinds.items():
                for thing in kind.few:
                    self.raised(kind.error, thing, call, **{**named, name: thing})

    def test_by_name_as_by_position(self):
        for call, kinds in PARAMETERS.items():
            for values in itertools.product(*[kind.right for kind in kinds.values()]):
                named = dict(reversed(list(zip(kinds, values))))
                with self.subTest(call=call.__name__, values=values):
                    found = seen(unchanged(call, *values))
                    self.assertTrue(same(seen(call(**named)), found))
                    self.assertTrue(same(seen(call(values[0], **dict(list(zip(kinds, values))[1:]))), found))

    def test_the_same_call_gives_the_same_again_behind_an_error(self):
        for call, kinds in PARAMETERS.items():
            values = list(right_values(call).values())
            before = seen(call(*values))
            self.raised(list(kinds.values())[0].error, None, call, *([None] + values[1:]))
            with self.subTest(call.__name__):
                self.assertTrue(same(seen(call(*values)), before))

    def test_no_call_changed_the_line_that_was_passed(self):
        # It stands among all kinds of values, so all the tests above have passed it.
        self.assertEqual(LINE.state(), (TWO, ((0, 0, 2), (1, 1, 1)), ((0, 0),), 1))
        self.assertIn("line", shown([LINE]))


if __name__ == "__main__":
    unittest.main()
