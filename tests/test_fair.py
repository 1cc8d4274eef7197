"""The fair rule: eligible packets [4.1] and the choice [4.2]."""

import unittest
from fractions import Fraction

from fairqueue.fair import eligible, schedule
from fairqueue.ideal import busy
from fairqueue.schedules import is_busy, is_schedule
from tests.support import (
    CASES,
    SOME,
    TWO,
    Reckoning,
    by_the_rule,
    chance_cases,
    moments_of,
    pair_of,
    same,
    unchanged,
)

# Weights and lengths of few kinds make ties of tags, and packets at the moments of choices.
MANY = CASES + chance_cases(1996, 150, flows=3, packets=12) + chance_cases(7, 20, flows=8, packets=30)


class TestExamples(unittest.TestCase):
    def test_as_the_document_gives_them(self):
        found = [schedule(TWO, SOME), eligible(TWO, SOME, (2, 1)), eligible(TWO, SOME, (3, 1))]
        self.assertTrue(same(found, [((0, 0), (1, 2), (2, 4)), (0, 1), (0, 1, 2)]))


class TestSchedule(unittest.TestCase):
    def test_some(self):
        self.assertTrue(same(schedule(TWO, ()), ()))
        self.assertTrue(same(schedule((3,), ((4, 0, 2),)), ((0, 4),)))
        self.assertTrue(same(schedule((3,), ((4, 0, 2), (4, 0, 1), (9, 0, 1))), ((0, 4), (1, 6), (2, 9))))
        weights, arrivals = (2, 1, 1), ((0, 0, 1), (0, 0, 1), (0, 0, 1), (0, 1, 1), (0, 2, 1))
        self.assertTrue(same(schedule(weights, arrivals), ((0, 0), (3, 1), (1, 2), (4, 3), (2, 4))))

    def test_of_the_same_end_tags_the_least_flow_goes_first(self):
        arrivals = ((0, 2, 2), (0, 1, 2), (0, 0, 2))
        self.assertEqual(schedule((1, 1, 1), arrivals), ((2, 0), (1, 2), (0, 4)))
        self.assertEqual(schedule((3, 3, 3), arrivals[::-1]), ((0, 0), (1, 2), (2, 4)))
        # The same end tag by other lengths and weights.
        self.assertEqual(schedule((2, 1), ((0, 1, 3), (0, 0, 6))), ((1, 0), (0, 6)))
        self.assertEqual(schedule((1, 2), ((0, 1, 6), (0, 0, 3))), ((1, 0), (0, 3)))

    def test_a_lesser_end_tag_goes_before_a_lesser_flow(self):
        self.assertEqual(schedule((1, 1), ((0, 0, 3), (0, 1, 2))), ((1, 0), (0, 2)))
        self.assertEqual(schedule((1, 2), ((0, 0, 2), (0, 1, 3))), ((1, 0), (0, 3)))
        # By their tops alone, or by lengths, the order would be another one.
        self.assertEqual(schedule((10, 3), ((0, 0, 9), (0, 1, 2))), ((1, 0), (0, 2)))

    def test_in_a_flow_the_order_is_that_of_the_numbers(self):
        for weights, arrivals in MANY:
            numbers = [number for number, _ in schedule(weights, arrivals)]
            for flow in range(len(weights)):
                own = [number for number in numbers if arrivals[number][1] == flow]
                with self.subTest(weights=weights, arrivals=arrivals, flow=flow):
                    self.assertEqual(own, sorted(own))

    def test_a_packet_that_is_not_eligible_waits_even_with_the_least_end_tag(self):
        # The tags of the packet 1 are 1/4 and 1/2, below the 1 of the packet 2, but at 1 the clock is 1/5.
        self.assertEqual(schedule((4, 1), ((0, 0, 1), (0, 0, 1), (0, 1, 1))), ((0, 0), (2, 1), (1, 2)))

    def test_a_packet_that_becomes_eligible_at_the_very_moment_of_a_choice(self):
        # All three flows wait until 3, so the clock is 1 at 3, just the begin tag of the packet 1.
        arrivals = ((0, 0, 1), (0, 0, 1), (0, 1, 2), (0, 2, 50))
        self.assertEqual(eligible((1, 1, 1), arrivals, (3, 1)), (0, 1, 2, 3))
        self.assertEqual(schedule((1, 1, 1), arrivals), ((0, 0), (2, 1), (1, 3), (3, 4)))
        # By a little more weight of a flow that waits it becomes eligible a little later.
        self.assertEqual(eligible((7, 7, 8), arrivals, (3, 1)), (0, 2, 3))
        self.assertEqual(schedule((7, 7, 8), arrivals), ((0, 0), (2, 1), (3, 3), (1, 53)))

    def test_packets_that_arrive_at_the_very_moment_at_which_the_line_becomes_free(self):
        # The packet 2 comes at 3 with a lesser end tag than the packet 1, which has waited since 0.
        self.assertEqual(schedule((1, 9), ((0, 0, 3), (0, 0, 3), (3, 1, 1))), ((0, 0), (2, 3), (1, 4)))
        self.assertEqual(schedule((1, 9), ((0, 0, 3), (0, 0, 3), (4, 1, 1))), ((0, 0), (1, 3), (2, 6)))

    def test_all_packets_of_a_moment_have_arrived_before_the_choice(self):
        self.assertEqual(schedule((1, 1), ((5, 0, 3), (5, 0, 1), (5, 1, 1))), ((2, 5), (0, 6), (1, 9)))

    def test_against_the_rule_choice_by_choice(self):
        for weights, arrivals in MANY:
            with self.subTest(weights=weights, arrivals=arrivals):
                self.assertTrue(same(unchanged(schedule, weights, arrivals), by_the_rule(weights, arrivals)))

    def test_it_is_a_schedule_and_busy(self):
        for weights, arrivals in MANY:
            found = schedule(weights, arrivals)
            with self.subTest(weights=weights, arrivals=arrivals):
                self.assertIs(is_schedule(weights, arrivals, found), True)
                self.assertIs(is_busy(weights, arrivals, found), True)
                stretches = busy(weights, arrivals)
                for number, start in found:
                    end = start + arrivals[number][2]
                    self.assertTrue(any([first <= start and end <= last for first, last in stretches]))

    def test_each_packet_ends_at_most_the_longest_length_after_its_ideal_end(self):
        for weights, arrivals in MANY:
            ideal = Reckoning(weights, arrivals).ends
            for number, start in schedule(weights, arrivals):
                with self.subTest(weights=weights, arrivals=arrivals, number=number):
                    late = start + arrivals[number][2] - ideal[number]
                    self.assertLessEqual(late, max([length for _, _, length in arrivals]))

    def test_cut_at_a_moment_it_is_the_same_whatever_arrives_from_then_on(self):
        for weights, arrivals in MANY[::3]:
            found = schedule(weights, arrivals)
            for moment in sorted({packet[0] for packet in arrivals}):
                known = tuple([packet for packet in arrivals if packet[0] < moment])
                cut = [pair for pair in found if pair[1] < moment]
                for more in ((), ((moment, 0, 1),), ((moment, len(weights) - 1, 60), (moment + 1, 0, 2))):
                    with self.subTest(weights=weights, arrivals=arrivals, moment=moment, more=more):
                        other = schedule(weights, known + more)
                        self.assertEqual([pair for pair in other if pair[1] < moment], cut)

    def test_flows_that_never_send_change_nothing(self):
        for weights, arrivals in MANY[::5]:
            with self.subTest(weights=weights, arrivals=arrivals):
                self.assertEqual(schedule(weights + (12,), arrivals), schedule(weights, arrivals))


class TestEligible(unittest.TestCase):
    def test_some(self):
        self.assertTrue(same(eligible(TWO, (), (4, 1)), ()))
        self.assertTrue(same(eligible(TWO, SOME, (0, 1)), (0, 1)))
        self.assertTrue(same(eligible(TWO, SOME, (3 * 10**30 - 1, 10**30)), (0, 1)))
        self.assertTrue(same(eligible(TWO, SOME, (10**140, 1)), (0, 1, 2)))

    def test_from_the_moment_of_a_packet_on(self):
        arrivals = ((4, 0, 2), (9, 1, 1))
        for moment, due in (((0, 1), ()), ((7, 2), ()), ((4, 1), (0,)), ((17, 2), (0,)), ((9, 1), (0, 1))):
            with self.subTest(moment):
                self.assertTrue(same(eligible(TWO, arrivals, moment), due))

    def test_a_packet_that_has_not_arrived_is_not_eligible_even_where_the_clock_stands(self):
        # The clock stands at 1 from 2 on, just the begin tag of the packet that arrives at 5.
        arrivals = ((0, 0, 2), (5, 1, 3))
        self.assertTrue(same(eligible(TWO, arrivals, (4, 1)), (0,)))
        self.assertTrue(same(eligible(TWO, arrivals, (5, 1)), (0, 1)))

    def test_at_all_moments_worth_a_look(self):
        for weights, arrivals in CASES:
            reckoning = Reckoning(weights, arrivals)
            pairs = reckoning.tags(arrivals)
            starts = [Fraction(start) for _, start in schedule(weights, arrivals)]
            numbers = range(len(arrivals))
            for moment in sorted(set(moments_of(reckoning)[::2] + starts)):
                value = reckoning.at(moment)[0]
                due = [number for number in numbers if arrivals[number][0] <= moment and pairs[number][0] <= value]
                with self.subTest(weights=weights, arrivals=arrivals, moment=moment):
                    self.assertTrue(same(unchanged(eligible, weights, arrivals, pair_of(moment)), tuple(due)))

    def test_at_the_very_moment_of_a_begin_tag_and_a_little_before(self):
        tiny = Fraction(1, 10**30)
        # The packet 1 begins on the ideal line at 4, when the packet 0 has been given whole.
        arrivals = ((0, 0, 2), (0, 0, 1), (0, 1, 9))
        self.assertTrue(same(eligible((1, 1), arrivals, (4, 1)), (0, 1, 2)))
        self.assertTrue(same(eligible((1, 1), arrivals, pair_of(4 - tiny)), (0, 2)))


if __name__ == "__main__":
    unittest.main()
