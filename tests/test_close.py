"""Extremes [6.1] and close schedules [6.2]."""

import itertools
import unittest
from fractions import Fraction

from fairqueue.close import close_holds, extremes, is_close, judge_close, lateness
from fairqueue.fair import schedule
from fairqueue.schedules import ends, is_schedule
from tests.support import (
    BIG,
    CASES,
    FAIR,
    NO_CERTIFICATES,
    NOT_FRACTIONS,
    SOME,
    TWO,
    Distance,
    chance_cases,
    exchanged,
    flow_by_flow,
    in_order,
    made,
    number_of,
    pair_of,
    same,
    unchanged,
)

# The slow schedule of the example of part 6.
SLOWER = ((0, 0), (2, 6), (1, 8))
MANY = CASES + chance_cases(1993, 60, flows=3, packets=8) + chance_cases(42, 4, flows=8, packets=30)


def schedules_of(weights, arrivals):
    """Schedules of the arrivals, that of the fair rule first."""
    fair = schedule(weights, arrivals)
    others = [flow_by_flow(arrivals)] + exchanged(arrivals, fair)[::3] + made(12, arrivals)[1::2]
    return [fair] + others


def all_distances():
    """A triple (weights, arrivals, schedule) and its distance, for all cases."""
    for weights, arrivals in MANY:
        for pairs in schedules_of(weights, arrivals):
            yield (weights, arrivals, pairs), Distance(weights, arrivals, pairs)


DISTANCES = list(all_distances())


class TestExamples(unittest.TestCase):
    def test_as_the_document_gives_them(self):
        found = [extremes(TWO, SOME, FAIR), lateness(TWO, SOME, FAIR), judge_close(TWO, SOME, FAIR)]
        due = [(((2, 3), (2, 3)), ((2, 3), (2, 3))), ((-1, 1), (-2, 1), (0, 1)), ("close",)]
        self.assertTrue(same(found, due))
        found = [
            lateness(TWO, SOME, SLOWER),
            is_close(TWO, SOME, SLOWER),
            close_holds(TWO, SOME, SLOWER, ("late", 1)),
            close_holds(TWO, SOME, SLOWER, ("late", 2)),
            close_holds(TWO, SOME, SLOWER, ("behind", 1, (8, 1))),
        ]
        self.assertTrue(same(found, [((-1, 1), (4, 1), (2, 1)), False, True, False, False]))


class TestExtremes(unittest.TestCase):
    def test_some(self):
        self.assertTrue(same(extremes(TWO, (), ()), (((0, 1), (0, 1)), ((0, 1), (0, 1)))))
        # A flow alone on a line without pauses is just where the ideal line is.
        alone = ((3, 0, 2), (3, 0, 1), (9, 0, 4))
        self.assertTrue(same(extremes((7,), alone, ((0, 3), (1, 5), (2, 9))), (((0, 1), (0, 1)),)))
        self.assertTrue(same(extremes((7,), alone, ((1, 3), (0, 4), (2, 9))), (((0, 1), (0, 1)),)))
        # With pauses it is behind by them, and catches up while nothing is given.
        self.assertTrue(same(extremes((7,), alone, ((0, 8), (1, 10), (2, 11))), (((3, 1), (0, 1)),)))
        self.assertTrue(same(extremes((7,), alone, ((0, 3), (1, 9), (2, 10))), (((1, 1), (0, 1)),)))

    def test_flows_without_packets(self):
        found = extremes((2, 5, 1), ((0, 0, 2), (0, 2, 2), (1, 0, 2)), FAIR)
        self.assertTrue(same(found, (((2, 3), (2, 3)), ((0, 1), (0, 1)), ((2, 3), (2, 3)))))
        for weights, arrivals in MANY:
            for pairs in schedules_of(weights, arrivals)[:2]:
                with self.subTest(weights=weights, arrivals=arrivals, pairs=pairs):
                    found = extremes(weights + (3,), arrivals, pairs)
                    self.assertEqual(found, extremes(weights, arrivals, pairs) + (((0, 1), (0, 1)),))

    def test_a_flow_that_waits_no_longer_on_the_ideal_line(self):
        # The flow 0 is given 2 until 4, and is sent nothing before 9: it is behind by 2 from 4 on.
        found = extremes((1, 1), ((0, 0, 2), (0, 1, 9)), ((1, 0), (0, 9)))
        self.assertTrue(same(found, (((2, 1), (0, 1)), ((0, 1), (2, 1)))))
        # The flow 0 is given 3 / 4 of the time from 1 to 5, the flow 1 gets all from then on.
        found = extremes((3, 1), ((0, 1, 6), (1, 0, 3)), ((0, 0), (1, 6)))
        self.assertTrue(same(found, (((3, 1), (0, 1)), ((0, 1), (3, 1)))))

    def test_far_starts(self):
        found = extremes(TWO, SOME, ((2, 20000), (0, 20002), (1, 20004)))
        self.assertTrue(same(found, (((4, 1), (0, 1)), ((2, 1), (0, 1)))))
        found = extremes(TWO, SOME, ((2, BIG), (0, BIG + 2), (1, BIG + 4)))
        self.assertTrue(same(found, (((4, 1), (0, 1)), ((2, 1), (0, 1)))))

    def test_against_the_reckoning(self):
        for values, distance in DISTANCES:
            with self.subTest(values):
                found = unchanged(extremes, *values)
                self.assertEqual([type(found)] + [type(pair) for pair in found], [tuple] * (len(values[0]) + 1))
                found = [(number_of(behind), number_of(ahead)) for behind, ahead in found]
                self.assertEqual(found, distance.extremes())


class TestLateness(unittest.TestCase):
    def test_some(self):
        self.assertTrue(same(lateness(TWO, (), ()), ()))
        self.assertTrue(same(lateness((4,), ((3, 0, 2),), ((0, 3),)), ((0, 1),)))
        self.assertTrue(same(lateness((4,), ((3, 0, 2),), ((0, 10),)), ((7, 1),)))
        self.assertTrue(same(lateness((3, 4), ((0, 0, 1), (0, 1, 1)), ((0, 0), (1, 1))), ((-1, 1), (1, 4))))

    def test_by_the_numbers_not_by_the_starts(self):
        self.assertTrue(same(lateness(TWO, SOME, ((2, 1), (1, 3), (0, 5))), ((4, 1), (-1, 1), (-3, 1))))

    def test_against_the_reckoning(self):
        for values, distance in DISTANCES:
            with self.subTest(values):
                found = unchanged(lateness, *values)
                self.assertIs(type(found), tuple)
                self.assertEqual([number_of(late) for late in found], distance.late)


class TestFairRule(unittest.TestCase):
    def test_its_schedule_is_close(self):
        for weights, arrivals in MANY + chance_cases(2, 200, flows=4, packets=14):
            pairs = schedule(weights, arrivals)
            with self.subTest(weights=weights, arrivals=arrivals):
                self.assertTrue(same(judge_close(weights, arrivals, pairs), ("close",)))
                self.assertIs(is_close(weights, arrivals, pairs), True)
                self.assertIs(close_holds(weights, arrivals, pairs, ("close",)), True)

    def test_it_is_close_by_the_reckoning_too(self):
        for weights, arrivals in MANY:
            distance = Distance(weights, arrivals, schedule(weights, arrivals))
            with self.subTest(weights=weights, arrivals=arrivals):
                self.assertIs(distance.is_close(), True)


class TestJudgeClose(unittest.TestCase):
    def test_its_certificate_is_right_and_accepted(self):
        words = {}
        for values, distance in DISTANCES:
            with self.subTest(values):
                found = unchanged(judge_close, *values)
                words[found[0]] = words.get(found[0], 0) + 1
                self.assertIs(distance.is_right(found), True)
                self.assertEqual(found == ("close",), distance.is_close())
                self.assertIs(close_holds(*values, found), True)
        self.assertGreater(words["close"], 50)
        self.assertGreater(sum(words.values()) - words["close"], 50)

    def test_schedules_that_are_not_close_for_one_reason_only(self):
        reasons = set()
        for values, distance in DISTANCES:
            late = any([late > distance.longest() for late in distance.late])
            limits = [distance.limits(flow) for flow in range(len(values[0]))]
            pairs = list(zip(distance.extremes(), limits))
            behind = any([found[0] > most[0] for found, most in pairs])
            ahead = any([found[1] > most[1] for found, most in pairs])
            reasons.add((late, behind, ahead))
            with self.subTest(values):
                self.assertIs(unchanged(is_close, *values), not (late or behind or ahead))
        for reason in ((True, False, False), (False, False, True), (False, False, False), (True, True, True)):
            self.assertIn(reason, reasons)

    def test_ahead_alone(self):
        # All packets end in time, and no flow is behind by more than one packet.
        weights, arrivals = (1, 1), ((0, 0, 1), (0, 0, 1), (0, 1, 2))
        found = judge_close(weights, arrivals, ((0, 0), (1, 1), (2, 2)))
        self.assertEqual(found[:2], ("ahead", 0))
        self.assertIs(close_holds(weights, arrivals, ((0, 0), (1, 1), (2, 2)), ("ahead", 0, (2, 1))), True)

    def test_late_alone(self):
        # The packet ends 3 after its ideal end; until then its flow is behind by 1 at most, its whole length.
        weights, arrivals, pairs = (1,), ((0, 0, 1),), ((0, 3),)
        self.assertTrue(same(judge_close(weights, arrivals, pairs), ("late", 0)))

    def test_by_just_the_longest_length(self):
        self.assertTrue(same(judge_close((1,), ((0, 0, 2),), ((0, 2),)), ("close",)))
        self.assertTrue(same(judge_close((1,), ((0, 0, 2),), ((0, 3),)), ("late", 0)))


class TestCloseHolds(unittest.TestCase):
    def right(self, values, thing):
        with self.subTest(values=values, thing=thing):
            self.assertIs(unchanged(close_holds, *values, thing), True)

    def wrong(self, values, thing):
        with self.subTest(values=values, thing=thing):
            self.assertIs(unchanged(close_holds, *values, thing), False)

    def test_all_flows_moments_and_numbers(self):
        answers = {True: 0, False: 0}
        for values, distance in DISTANCES[::5]:
            things = [("close",)] + [("late", number) for number in range(len(values[1]))]
            for flow, moment in itertools.product(range(len(values[0])), distance.moments[::3]):
                things += [("behind", flow, pair_of(moment)), ("ahead", flow, pair_of(moment))]
            for thing in things:
                due = distance.is_right(thing)
                answers[due] += 1
                with self.subTest(values=values, thing=thing):
                    self.assertIs(close_holds(*values, thing), due)
        self.assertGreater(min(answers.values()), 100)

    def test_no_certificates(self):
        for pairs in (FAIR, SLOWER):
            for thing in NO_CERTIFICATES:
                self.wrong((TWO, SOME, pairs), thing)
            self.wrong((TWO, SOME, pairs), pairs)

    def test_close_is_right_just_for_close_ones(self):
        self.right((TWO, SOME, FAIR), ("close",))
        self.wrong((TWO, SOME, SLOWER), ("close",))
        self.right((TWO, (), ()), ("close",))

    def test_no_packets(self):
        for thing in (("late", 0), ("late", -1), ("behind", 0, (0, 1)), ("ahead", 1, (0, 1)), ("ahead", 1, (5, 2))):
            self.wrong((TWO, (), ()), thing)

    def test_late(self):
        self.right((TWO, SOME, SLOWER), ("late", 1))
        # The packet 2 is late by just the longest length.
        for number in (0, 2, 3, -2, -1, BIG, -BIG, True, False, None, "1", (1,), [1], {1: 1}, (1, 1)):
            self.wrong((TWO, SOME, SLOWER), ("late", number))
        self.wrong((TWO, SOME, SLOWER), ("late", 1, 1))
        self.wrong((TWO, SOME, SLOWER), ("late", 1, (8, 1)))
        self.wrong((TWO, SOME, SLOWER), ["late", 1])
        self.wrong((TWO, SOME, SLOWER), ("behind", 1))
        self.wrong((TWO, SOME, SLOWER), ("Late", 1))
        self.wrong((TWO, SOME, SLOWER), (1, "late"))

    def test_behind(self):
        # The packets of the flow 0 are given whole at 6, and sent from 20 on.
        values = (TWO, SOME, ((1, 0), (0, 20), (2, 22)))
        for moment in ((4, 1), (6, 1), (10, 1), (20, 1), (41, 2), (20 * 10**30 + 1, 10**30), (22 * 10**30 - 1, 10**30)):
            self.right(values, ("behind", 0, moment))
        # It is behind by just the longest length, 2, at 22.
        for moment in ((0, 1), (1, 1), (22, 1), (45, 2), (10**140, 1), (22 * 10**30 + 1, 10**30)):
            self.wrong(values, ("behind", 0, moment))
        for moment in ((4, 1), (6, 1), (20, 1)):
            self.wrong(values, ("ahead", 0, moment))
            self.wrong(values, ("behind", 1, moment))
            for flow in (2, 3, -1, -2, BIG, False, True, None, "0", (0,), [0]):
                self.wrong(values, ("behind", flow, moment))

    def test_behind_by_just_the_longest_length(self):
        # The flow is behind by the time until 2, by 2 until 5, and then catches up.
        values = ((1,), ((0, 0, 2),), ((0, 5),))
        for moment in range(9):
            self.wrong(values, ("behind", 0, (moment, 1)))
        values = ((1,), ((0, 0, 2), (0, 0, 1)), ((0, 5), (1, 7)))
        self.wrong(values, ("behind", 0, (2, 1)))
        self.right(values, ("behind", 0, (2 * 10**30 + 1, 10**30)))
        self.right(values, ("behind", 0, (6 * 10**30 - 1, 10**30)))
        self.wrong(values, ("behind", 0, (6, 1)))

    def test_ahead_by_just_what_is_allowed(self):
        # The flow 0 is given 1 / 2 of the time until 2; the own longest length is 1, so 1 / 2 is allowed.
        values = ((1, 1), ((0, 0, 1), (0, 0, 1), (0, 1, 2)), ((0, 0), (1, 1), (2, 2)))
        self.wrong(values, ("ahead", 0, (1, 1)))
        self.right(values, ("ahead", 0, (10**30 + 1, 10**30)))
        self.right(values, ("ahead", 0, (2, 1)))
        self.right(values, ("ahead", 0, (3 * 10**30 - 1, 10**30)))
        self.wrong(values, ("ahead", 0, (3, 1)))
        self.wrong(values, ("behind", 0, (2, 1)))
        self.wrong(values, ("ahead", 1, (2, 1)))
        for flow in (2, -1, -2, False, True, None, "0", (0,), [0], {0: 0}, BIG, -BIG):
            self.wrong(values, ("ahead", flow, (2, 1)))

    def test_it_is_the_own_longest_length_that_counts_for_ahead(self):
        # The packets of the flow 0 are short, those of the flow 1 long.
        values = ((1, 1), ((0, 0, 1), (0, 0, 1), (0, 1, 20)), ((0, 0), (1, 1), (2, 2)))
        self.right(values, ("ahead", 0, (2, 1)))
        # And for behind it is that of all packets.
        values = ((1, 1), ((0, 0, 1), (0, 0, 1), (0, 1, 20)), ((2, 0), (0, 20), (1, 21)))
        self.wrong(values, ("behind", 0, (20, 1)))

    def test_moments_that_are_none(self):
        behind = (TWO, SOME, ((1, 0), (0, 20), (2, 22)))
        ahead = ((1, 1), ((0, 0, 1), (0, 0, 1), (0, 1, 2)), ((0, 0), (1, 1), (2, 2)))
        for moment in NOT_FRACTIONS + ((20, 2), (40, 2), (4, 2), (12, 3), (20, -1), (-20, -1), (20.0, 1)):
            self.wrong(behind, ("behind", 0, moment))
            self.wrong(ahead, ("ahead", 0, moment))

    def test_other_forms(self):
        values = (TWO, SOME, ((1, 0), (0, 20), (2, 22)))
        self.right(values, ("behind", 0, (20, 1)))
        for thing in (
            ("behind", 0),
            ("behind", 0, (20, 1), 0),
            ("behind", 0, (20, 1), (20, 1)),
            ("behind", (20, 1), 0),
            ("behind", 0, 20, 1),
            ("behind", 0, [20, 1]),
            ["behind", 0, (20, 1)],
            (0, (20, 1)),
            (0, "behind", (20, 1)),
            ("ahead", 0, (20, 1)),
            ("late", 0, (20, 1)),
            ("close", 0, (20, 1)),
            ("behind ", 0, (20, 1)),
            (("behind",), 0, (20, 1)),
            ("behind", 0, ((20, 1),)),
            (True, 0, (20, 1)),
            (None, 0, (20, 1)),
        ):
            self.wrong(values, thing)

    def test_certificates_of_other_schedules_and_arrivals(self):
        self.wrong((TWO, SOME, FAIR), ("late", 1))
        self.right((TWO, SOME, SLOWER), ("late", 1))
        # With a longer packet at the end, the same lateness is in order.
        longer = SOME + ((1, 1, 9),)
        pairs = SLOWER + ((3, 10),)
        self.assertIs(is_schedule(TWO, longer, pairs), True)
        self.wrong((TWO, longer, pairs), ("late", 1))


class TestAnySchedule(unittest.TestCase):
    def test_in_each_order_with_each_pause(self):
        arrivals = ((0, 0, 2), (0, 1, 1), (1, 1, 3))
        for order in itertools.permutations(range(3)):
            for pauses in itertools.product((0, 2, 5), repeat=3):
                pairs = in_order(arrivals, order, pauses)
                distance = Distance((2, 3), arrivals, pairs)
                with self.subTest(pairs):
                    self.assertIs(distance.is_right(judge_close((2, 3), arrivals, pairs)), True)
                    self.assertIs(is_close((2, 3), arrivals, pairs), distance.is_close())
                    found = [number_of(late) for late in lateness((2, 3), arrivals, pairs)]
                    due = [end - first for end, first in zip(ends((2, 3), arrivals, pairs), distance.reckoning.ends)]
                    self.assertEqual(found, due)
                    self.assertEqual(Fraction(0), min(0, min([min(pair) for pair in distance.extremes()])))


if __name__ == "__main__":
    unittest.main()
