"""Arguments [0.2]: what is no argument of its kind, the order of the errors, names, and that nothing is changed."""

import itertools
import unittest

from fairqueue.clock import clock, moment_of, tags
from fairqueue.errors import BadArrivals, BadMoment, BadNumber, BadSchedule, BadWeights
from fairqueue.fair import eligible, schedule
from fairqueue.ideal import busy, ideal_ends, ideal_given
from fairqueue.schedules import ends, is_busy, is_schedule, sent
from tests.support import (
    FAIR,
    FRACTIONS,
    NOT_ARRIVALS,
    NOT_FRACTIONS,
    NOT_SCHEDULES,
    NOT_WEIGHTS,
    SLOW,
    SOME,
    TWO,
    caught,
    same,
    unchanged,
)

PARAMETERS = {
    ideal_ends: ("weights", "arrivals"),
    ideal_given: ("weights", "arrivals", "moment"),
    busy: ("weights", "arrivals"),
    clock: ("weights", "arrivals", "moment"),
    tags: ("weights", "arrivals"),
    moment_of: ("weights", "arrivals", "value"),
    schedule: ("weights", "arrivals"),
    eligible: ("weights", "arrivals", "moment"),
    is_schedule: ("weights", "arrivals", "thing"),
    is_busy: ("weights", "arrivals", "schedule"),
    ends: ("weights", "arrivals", "schedule"),
    sent: ("weights", "arrivals", "schedule", "moment"),
}
ERRORS = {
    "weights": BadWeights,
    "arrivals": BadArrivals,
    "schedule": BadSchedule,
    "moment": BadMoment,
    "value": BadNumber,
}
RIGHT = {
    "weights": (TWO, (1, 3)),
    "arrivals": (SOME,),
    "schedule": (FAIR, SLOW),
    "moment": FRACTIONS,
    "value": FRACTIONS,
    "thing": (FAIR, SLOW, None, [1], {2: 3}, ((0, 0),)),
}
WRONG = {
    "weights": NOT_WEIGHTS,
    "arrivals": NOT_ARRIVALS,
    "schedule": NOT_SCHEDULES,
    "moment": NOT_FRACTIONS,
    "value": NOT_FRACTIONS,
}
# A few wrong values that are new objects, so that it shows which one the error has.
FEW = {
    "weights": ([2, 1], (2, 0), None),
    "arrivals": ([(0, 0, 2)], ((0, 2, 1),), SOME[::-1], None),
    "schedule": (list(FAIR), FAIR[:2], None),
    "moment": ([1, 2], (2, 4), (-1, 1), 1, None),
    "value": ([1, 2], (2, 4), (-1, 1), 1, None),
}


class TestArguments(unittest.TestCase):
    def raised(self, name, thing, call, /, *values, **named):
        with self.subTest(call=call.__name__, values=values, named=named):
            error = caught(call, *values, **named)
            self.assertIs(type(error), ERRORS[name])
            self.assertIs(error.thing, thing)

    def test_one_wrong_value(self):
        for call, names in PARAMETERS.items():
            for at, name in enumerate(names):
                if name == "thing":
                    continue
                values = [RIGHT[other][0] for other in names]
                for thing in WRONG[name]:
                    values[at] = thing
                    self.raised(name, thing, call, *values)

    def test_one_wrong_value_by_name(self):
        for call, names in PARAMETERS.items():
            for name in names:
                if name == "thing":
                    continue
                named = {other: RIGHT[other][0] for other in reversed(names)}
                for thing in FEW[name]:
                    named[name] = thing
                    self.raised(name, thing, call, **named)

    def test_several_wrong_values_raise_the_error_of_the_first(self):
        for call, names in PARAMETERS.items():
            choices = [RIGHT[name][:1] + FEW.get(name, ()) for name in names]
            for values in itertools.product(*choices):
                wrong = [at for at, name in enumerate(names) if name in FEW and values[at] in FEW[name]]
                if wrong:
                    named = dict(reversed(list(zip(names, values))))
                    self.raised(names[wrong[0]], values[wrong[0]], call, *values)
                    self.raised(names[wrong[0]], values[wrong[0]], call, **named)

    def test_the_same_value_for_all(self):
        for call, names in PARAMETERS.items():
            for thing in (None, True, 0, "", [], {}, [[2], 1]):
                self.raised("weights", thing, call, *[thing for _ in names])

    def test_values_that_are_right_for_other_weights(self):
        third = ((0, 2, 1),)
        self.assertEqual(tags((1, 1, 1), third), (((0, 1), (1, 1)),))
        for call, names in PARAMETERS.items():
            values = [TWO, third] + [RIGHT[name][0] for name in names[2:]]
            self.raised("arrivals", third, call, *values)

    def test_schedules_of_other_arrivals(self):
        for call in (is_busy, ends):
            self.raised("schedule", FAIR, call, TWO, SOME[:2], FAIR)
            self.raised("schedule", FAIR, call, TWO, ((1, 0, 2),) + SOME[2:] * 2, FAIR)
            self.raised("schedule", FAIR, call, TWO, (), FAIR)
            self.raised("schedule", (), call, TWO, SOME, ())

    def test_no_packets_are_no_excuse(self):
        for call, names in PARAMETERS.items():
            named = {name: RIGHT[name][0] for name in names}
            named["arrivals"] = ()
            if "schedule" in named:
                named["schedule"] = ()
            for name in names:
                for thing in FEW.get(name, ()):
                    self.raised(name, thing, call, **{**named, name: thing})

    def test_by_name_as_by_position(self):
        for call, names in PARAMETERS.items():
            for values in itertools.product(*[RIGHT[name] for name in names]):
                named = dict(reversed(list(zip(names, values))))
                with self.subTest(call=call.__name__, values=values):
                    self.assertTrue(same(call(**named), unchanged(call, *values)))
                    self.assertTrue(same(call(values[0], **dict(zip(names[1:], values[1:]))), call(*values)))

    def test_the_same_call_gives_the_same_again_behind_an_error(self):
        for call, names in PARAMETERS.items():
            values = [RIGHT[name][0] for name in names]
            before = call(*values)
            self.raised("weights", None, call, *([None] + values[1:]))
            with self.subTest(call.__name__):
                self.assertTrue(same(call(*values), before))


if __name__ == "__main__":
    unittest.main()
