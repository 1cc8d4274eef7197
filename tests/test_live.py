"""Lines that run [12.1] and their states [12.2]."""

import random
import unittest

from fairqueue.errors import BadFlow, BadMoment, BadNumber, BadState, BadWeights
from fairqueue.fair import schedule
from fairqueue.live import Line, continued, is_state
from tests.support import (
    BIG,
    CASES,
    FAIR,
    LINE,
    NOT_FLOWS,
    NOT_NUMBERS,
    NOT_STATES,
    NOT_WEIGHTS,
    SOME,
    STATES,
    STRANGE,
    TWO,
    by_the_rule,
    caught,
    chance_cases,
    same,
    unchanged,
)


def chance_runs(seed, many):
    """Pairs of weights and calls, ("arrive", flow, length) or ("go", time), in any order."""
    source = random.Random(seed)
    runs = []
    for _ in range(many):
        weights = tuple([source.randint(1, 5) for _ in range(source.randint(1, 4))])
        far, calls = source.choice((1, 3, 9)), []
        for _ in range(source.randint(1, 24)):
            if source.random() < 0.5:
                calls.append(("arrive", source.randrange(len(weights)), source.randint(1, 5)))
            else:
                calls.append(("go", source.randint(0, far)))
        runs.append((weights, calls))
    return runs


def run_of(weights, arrivals):
    """The calls by which the arrivals come to a line."""
    calls, now = [], 0
    for moment, flow, length in arrivals:
        calls += [("go", moment - now), ("arrive", flow, length)]
        now = moment
    return weights, calls + [("go", 7), ("go", 2000)]


RUNS = [run_of(*case) for case in CASES[::2]] + chance_runs(121, 80)


def made(line, call):
    """The result of the call; the time of a go is from now on."""
    if call[0] == "arrive":
        return line.arrive(*call[1:])
    return line.go(line.now() + call[1])


class Shadow:
    """What a line has to be, by the schedule of the fair rule of all arrivals until now."""

    def __init__(self, weights):
        self.weights, self.arrivals, self.moment = weights, (), 0

    def starts(self):
        """All pairs of the schedule whose start is below now."""
        return tuple([pair for pair in by_the_rule(self.weights, self.arrivals) if pair[1] < self.moment])

    def made(self, call):
        """What the call is to return."""
        if call[0] == "arrive":
            self.arrivals += ((self.moment,) + call[1:],)
            return len(self.arrivals) - 1
        before = self.moment
        self.moment += call[1]
        return tuple([pair for pair in self.starts() if pair[1] >= before])

    def waiting(self):
        """The numbers of the packets that have not been started before now."""
        gone = dict(self.starts())
        return tuple([number for number in range(len(self.arrivals)) if number not in gone])

    def state(self):
        """The state."""
        return self.weights, self.arrivals, self.starts(), self.moment


def is_state_by_words(weights, arrivals, starts, now):
    """Whether the four values, each of a right kind in itself, are a state."""
    if now < max([moment for moment, _, _ in arrivals], default=0):
        return False
    return starts == tuple([pair for pair in by_the_rule(weights, arrivals) if pair[1] < now])


class TestExamples(unittest.TestCase):
    def test_as_the_document_gives_them(self):
        line = Line((2, 1))
        found = [line.arrive(0, 2), line.arrive(1, 2), line.go(1), line.arrive(0, 2), line.waiting(), line.state()]
        due = [0, 1, ((0, 0),), 2, (1, 2), ((2, 1), ((0, 0, 2), (0, 1, 2), (1, 0, 2)), ((0, 0),), 1)]
        self.assertTrue(same(found, due))
        other = continued(line.state())
        found = [
            line.go(3),
            other.go(2),
            other.go(9),
            line.go(9),
            other.state() == line.state(),
            is_state(((2, 1), (), ((0, 0),), 3)),
        ]
        self.assertTrue(same(found, [((1, 2),), (), ((1, 2), (2, 4)), ((2, 4),), True, False]))


class TestLine(unittest.TestCase):
    def test_a_new_one(self):
        for weights in ((1,), TWO, (12,) * 8, (BIG, 1)):
            line = Line(weights)
            found = [line.now(), line.waiting(), line.state(), line.go(0), line.go(5), line.now(), line.state()]
            due = [0, (), (weights, (), (), 0), (), (), 5, (weights, (), (), 5)]
            self.assertTrue(same(found, due))

    def test_any_order_of_calls(self):
        for weights, calls in RUNS:
            line, shadow = Line(weights), Shadow(weights)
            for at, call in enumerate(calls):
                with self.subTest(weights=weights, calls=calls, at=at):
                    self.assertTrue(same(made(line, call), shadow.made(call)))
                    self.assertTrue(same(line.now(), shadow.moment))
                    self.assertTrue(same(line.waiting(), shadow.waiting()))
                    self.assertTrue(same(line.state(), shadow.state()))

    def test_all_that_it_sends_is_the_schedule_of_all_arrivals(self):
        for weights, arrivals in CASES:
            line, sent = Line(weights), ()
            for number, (moment, flow, length) in enumerate(arrivals):
                sent += line.go(moment)
                self.assertTrue(same(line.arrive(flow, length), number))
            sent += line.go(20000)
            with self.subTest(weights=weights, arrivals=arrivals):
                self.assertTrue(same(sent, schedule(weights, arrivals)))
                self.assertTrue(same(line.waiting(), ()))
                self.assertTrue(same(line.state(), (weights, arrivals, sent, 20000)))

    def test_go_to_now_itself(self):
        line = Line(TWO)
        line.arrive(0, 2)
        self.assertTrue(same([line.go(0), line.go(0), line.waiting()], [(), (), (0,)]))
        # A packet that is started at now itself is started not before now.
        self.assertTrue(same([line.go(1), line.go(1), line.waiting()], [((0, 0),), (), ()]))
        line.arrive(1, 1)
        self.assertTrue(same([line.go(2), line.go(2), line.waiting(), line.go(3)], [(), (), (1,), ((1, 2),)]))

    def test_arrivals_at_the_very_moment_at_which_the_line_becomes_free(self):
        line = Line((1, 9))
        line.arrive(0, 3)
        line.arrive(0, 3)
        self.assertTrue(same(line.go(3), ((0, 0),)))
        # It comes with a lesser end tag than the packet that has waited.
        self.assertTrue(same([line.arrive(1, 1), line.waiting()], [2, (1, 2)]))
        self.assertTrue(same([line.go(4), line.go(5)], [((2, 3),), ((1, 4),)]))
        # One unit of time later it is too late.
        line = Line((1, 9))
        line.arrive(0, 3)
        line.arrive(0, 3)
        self.assertTrue(same([line.go(4), line.arrive(1, 1), line.go(9)], [((0, 0), (1, 3)), 2, ((2, 6),)]))

    def test_small_steps_and_a_large_one(self):
        source = random.Random(122)
        for weights, arrivals in CASES[::2] + chance_cases(123, 30, flows=3, packets=10):
            small, large = Line(weights), Line(weights)
            ends = [moment for moment, _, _ in arrivals] + [max([0] + [packet[0] for packet in arrivals]) + 90]
            for end, packet in zip(ends, list(arrivals) + [None]):
                steps = ()
                # Steps of one unit over a long time tell no more than those over its first part.
                for moment in list(range(small.now(), min(end, small.now() + 90), source.randint(1, 3))) + [end]:
                    steps += small.go(moment)
                with self.subTest(weights=weights, arrivals=arrivals, end=end):
                    self.assertTrue(same(steps, large.go(end)))
                    self.assertTrue(same(small.state(), large.state()))
                if packet:
                    self.assertEqual(small.arrive(*packet[1:]), large.arrive(*packet[1:]))

    def test_two_lines_of_the_same_weights(self):
        first, second = Line(TWO), Line(TWO)
        first.arrive(0, 2)
        first.go(1)
        self.assertTrue(same(second.state(), (TWO, (), (), 0)))
        second.arrive(1, 5)
        self.assertTrue(same(first.state(), (TWO, ((0, 0, 2),), ((0, 0),), 1)))
        self.assertTrue(same(second.state(), (TWO, ((0, 1, 5),), (), 0)))

    def test_equal_only_if_the_same(self):
        line, other = Line(TWO), Line(TWO)
        again = line
        self.assertTrue(line == again)
        self.assertFalse(line != again)
        for each in (other, continued(line.state()), TWO, line.state(), None, 0):
            self.assertFalse(line == each)
            self.assertTrue(line != each)
        self.assertEqual(line.state(), other.state())
        self.assertNotIn(line, [other, continued(line.state())])
        self.assertEqual({line: 1, other: 2}[line], 1)

    def test_asking_changes_nothing(self):
        for weights, calls in RUNS[::4]:
            line = Line(weights)
            for call in calls:
                made(line, call)
                before = line.state()
                with self.subTest(weights=weights, calls=calls):
                    for _ in range(2):
                        self.assertTrue(same(line.waiting(), unchanged(lambda each: each.waiting(), line)))
                        self.assertTrue(same(line.state(), before))
                        self.assertTrue(same(line.now(), before[3]))

    def test_by_name(self):
        line = Line(weights=TWO)
        found = [line.arrive(length=2, flow=0), line.arrive(1, length=2), line.go(moment=3), line.state()]
        due = [0, 1, ((0, 0), (1, 2)), (TWO, ((0, 0, 2), (0, 1, 2)), ((0, 0), (1, 2)), 3)]
        self.assertTrue(same(found, due))

    def test_its_methods_are_its_own(self):
        for name in ("arrive", "go", "now", "waiting", "state"):
            self.assertIn(name, vars(Line))
        self.assertEqual(Line.__bases__, (object,))

    def test_far_moments_and_great_lengths(self):
        line = Line((1, BIG))
        line.go(BIG)
        line.arrive(0, BIG)
        line.arrive(1, BIG)
        self.assertTrue(same(line.go(BIG + 1), ((1, BIG),)))
        self.assertTrue(same(line.go(9 * BIG), ((0, 2 * BIG),)))


class TestErrors(unittest.TestCase):
    def raised(self, error, thing, call, /, *values, **named):
        with self.subTest(thing=thing, values=values, named=named):
            found = caught(call, *values, **named)
            self.assertIs(type(found), error)
            self.assertIs(found.thing, thing)

    def line(self):
        """A line in the middle of a run."""
        line = Line(TWO)
        line.arrive(0, 2)
        line.arrive(1, 2)
        line.go(1)
        line.arrive(0, 2)
        return line

    def test_no_weights(self):
        for thing in NOT_WEIGHTS:
            self.raised(BadWeights, thing, Line, thing)
            self.raised(BadWeights, thing, Line, weights=thing)

    def test_no_flow_and_no_length(self):
        line = self.line()
        before = line.state()
        for thing in NOT_FLOWS:
            self.raised(BadFlow, thing, line.arrive, thing, 1)
            self.raised(BadFlow, thing, line.arrive, length=1, flow=thing)
            self.raised(BadFlow, thing, line.arrive, thing, None)
            self.raised(BadFlow, thing, line.arrive, thing, thing)
        for thing in NOT_NUMBERS:
            self.raised(BadNumber, thing, line.arrive, 0, thing)
            self.raised(BadNumber, thing, line.arrive, length=thing, flow=1)
        self.assertTrue(same(line.state(), before))

    def test_flows_are_those_of_the_weights(self):
        for weights in ((1,), TWO, (1, 1, 1), (3,) * 9):
            line = Line(weights)
            self.assertEqual(line.arrive(len(weights) - 1, 1), 0)
            self.raised(BadFlow, len(weights), line.arrive, len(weights), 1)

    def test_no_moment(self):
        line = self.line()
        before = line.state()
        for thing in [each for each in STRANGE if each is not BIG] + [0, (1, 1), (5, 1), "2", [2], (2,), {2: 2}, line]:
            self.raised(BadMoment, thing, line.go, thing)
            self.raised(BadMoment, thing, line.go, moment=thing)
        self.assertTrue(same(line.state(), before))
        # True is no integer, although the moment 1 would be right.
        self.raised(BadMoment, True, line.go, True)
        self.assertTrue(same(line.go(1), ()))

    def test_a_moment_below_now(self):
        line = Line(TWO)
        for moment in (0, 1, 2, 5, 20000):
            self.assertTrue(same([line.go(moment), line.now()], [(), moment]))
            earlier = moment - 1
            self.raised(BadMoment, earlier, line.go, earlier)
            self.raised(BadMoment, earlier, line.go, moment=earlier)
            self.assertTrue(same([line.now(), line.go(moment)], [moment, ()]))

    def test_errors_in_the_middle_change_nothing(self):
        for weights, calls in RUNS[::4]:
            line, other = Line(weights), Line(weights)
            for call in calls:
                self.raised(BadFlow, -1, line.arrive, -1, 1)
                self.raised(BadFlow, len(weights), line.arrive, len(weights), 0)
                self.raised(BadNumber, 0, line.arrive, 0, 0)
                self.raised(BadNumber, LINE, line.arrive, 0, LINE)
                earlier = line.now() - 1
                self.raised(BadMoment, earlier, line.go, earlier)
                self.raised(BadMoment, None, line.go, None)
                with self.subTest(weights=weights, calls=calls):
                    self.assertTrue(same(line.state(), other.state()))
                    self.assertTrue(same(made(line, call), made(other, call)))
                    self.assertTrue(same(line.waiting(), other.waiting()))

    def test_no_state(self):
        for thing in NOT_STATES + (Line(TWO), [Line(TWO).state()], (Line(TWO),) * 4):
            self.raised(BadState, thing, continued, thing)
            self.raised(BadState, thing, continued, state=thing)


class TestIsState(unittest.TestCase):
    def test_states(self):
        for thing in STATES:
            with self.subTest(thing):
                self.assertIs(unchanged(is_state, thing), True)
        for weights, calls in RUNS:
            line = Line(weights)
            for call in calls:
                made(line, call)
                with self.subTest(weights=weights, calls=calls):
                    self.assertIs(is_state(line.state()), True)

    def test_no_states(self):
        for thing in NOT_STATES + tuple([list(state) for state in STATES]):
            with self.subTest(thing):
                self.assertIs(unchanged(is_state, thing), False)

    def test_one_thing_otherwise(self):
        answers = {True: 0, False: 0}
        for weights, calls in RUNS:
            line = Line(weights)
            for call in calls:
                made(line, call)
            _, arrivals, starts, now = line.state()
            last = starts[-1:]
            for thing in [
                (weights, arrivals, starts[:-1], now),
                (weights, arrivals, starts[1:], now),
                (weights, arrivals, starts + last, now),
                (weights, arrivals, starts + ((len(arrivals) - 1, now),), now),
                (weights, arrivals, starts + by_the_rule(weights, arrivals)[len(starts) :][:1], now),
                (weights, arrivals, starts[::-1], now),
                (weights, arrivals, starts, now + 1),
                (weights, arrivals, starts, now - 1),
                (weights, arrivals, starts, now + 5000),
                (weights, arrivals, starts, 0),
                (weights, arrivals[:-1], starts, now),
                (weights, arrivals + ((now, 0, 1),), starts, now),
                (weights, arrivals + ((now + 1, 0, 1),), starts, now),
                (weights, arrivals + ((now + 1, 0, 1),), starts, now + 1),
                (weights[::-1], arrivals, starts, now),
                (weights + (3,), arrivals, starts, now),
            ]:
                due = is_state_by_words(*thing)
                answers[due] += 1
                with self.subTest(thing):
                    self.assertIs(is_state(thing), due)
        self.assertGreater(min(answers.values()), 100)

    def test_values_of_other_kinds_in_it(self):
        for weights, calls in RUNS[::3]:
            line = Line(weights)
            for call in calls:
                made(line, call)
            state = line.state()
            for at, part in enumerate(state):
                others = [None, LINE, [part], (part,), {0: part}, str(part), True, False, -1]
                others += [list(part)] if isinstance(part, tuple) else [(part, 1), bool(part)]
                for other in others:
                    thing = state[:at] + (other,) + state[at + 1 :]
                    with self.subTest(thing):
                        self.assertIs(is_state(thing), False)
            for at, (number, start) in enumerate(state[2]):
                for pair in ((bool(number), start), (number, bool(start)), [number, start], (number,), (number, LINE)):
                    thing = state[:2] + (state[2][:at] + (pair,) + state[2][at + 1 :],) + state[3:]
                    with self.subTest(thing):
                        self.assertIs(is_state(thing), False)

    def test_a_line_is_no_state(self):
        self.assertIs(is_state(Line(TWO)), False)
        self.assertIs(is_state((Line(TWO),) * 4), False)
        self.assertIs(is_state([Line(TWO)]), False)

    def test_by_name(self):
        self.assertIs(is_state(thing=(TWO, SOME, FAIR, 5)), True)
        self.assertIs(is_state(thing=(TWO, SOME, FAIR, 4)), False)


class TestContinued(unittest.TestCase):
    def test_states(self):
        for state in STATES:
            with self.subTest(state):
                line = unchanged(continued, state)
                self.assertIs(type(line), Line)
                self.assertTrue(same([line.state(), line.now()], [state, state[3]]))
                self.assertFalse(line == continued(state))

    def test_cut_at_any_moment_both_go_on_alike(self):
        for weights, calls in RUNS[::2]:
            for cut in range(0, len(calls) + 1, 3):
                line = Line(weights)
                for call in calls[:cut]:
                    made(line, call)
                other = continued(line.state())
                with self.subTest(weights=weights, calls=calls, cut=cut):
                    for call in calls[cut:] + [("go", 200)]:
                        self.assertTrue(same(made(other, call), made(line, call)))
                        self.assertTrue(same(other.state(), line.state()))
                        self.assertTrue(same(other.waiting(), line.waiting()))

    def test_they_do_not_touch_each_other(self):
        for weights, calls in RUNS[::3]:
            line = Line(weights)
            for call in calls:
                made(line, call)
            state = line.state()
            other, third = continued(state), continued(state)
            other.go(other.now() + 50)
            other.arrive(0, 3)
            third.arrive(0, 1)
            with self.subTest(weights=weights, calls=calls):
                self.assertTrue(same(line.state(), state))
                self.assertTrue(same(third.state()[1], state[1] + ((state[3], 0, 1),)))
                line.go(line.now() + 50)
                line.arrive(0, 3)
                self.assertTrue(same(line.state(), other.state()))

    def test_again_and_again(self):
        # A line that is stopped and continued before each call, and one that never is.
        for weights, calls in RUNS[::2]:
            line, other = Line(weights), Line(weights)
            for call in calls:
                other = continued(other.state())
                with self.subTest(weights=weights, calls=calls):
                    self.assertTrue(same(made(other, call), made(line, call)))

    def test_by_name(self):
        self.assertEqual(continued(state=(TWO, SOME, FAIR, 5)).go(9), ())


if __name__ == "__main__":
    unittest.main()
