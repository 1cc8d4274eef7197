"""Waits [8.1], their bound [8.2], and arrivals that reach the bounds [8.3]."""

import math
import random
import unittest
from fractions import Fraction

from fairqueue.buckets import judge_bucket, shaped
from fairqueue.close import extremes
from fairqueue.fair import schedule
from fairqueue.flows import is_arrivals, is_weights, longest, own_longest
from fairqueue.ideal import ideal_ends
from fairqueue.waits import full_ahead, full_arrivals, near_behind, wait_bound, waits
from tests.support import (
    BIG,
    CASES,
    FAIR,
    SLOW,
    SOME,
    TWO,
    Distance,
    chance_cases,
    made,
    number_of,
    pair_of,
    same,
    unchanged,
)

# All sorts of weights within the limits: alone, even, uneven, and the greatest and most of them.
WEIGHTS = (
    (1,),
    (12,),
    (1, 1),
    TWO,
    (1, 12),
    (12, 1),
    (5, 7),
    (12, 11),
    (6, 4, 3),
    (1, 2, 3, 4, 5, 6, 7, 8),
    (1,) * 8,
    (12,) * 8,
    (1, 12, 12, 12, 12, 12, 12, 12),
    (12, 12, 12, 1, 12, 12, 12, 12),
    (11, 12, 12, 12, 12, 12, 12, 12),
    (12, 1, 1, 1, 1, 1, 1, 1),
)


def is_within_limits(weights, arrivals):
    """Whether these are weights and arrivals within the limits of part 1."""
    if not is_weights(weights) or not is_arrivals(weights, arrivals):
        return False
    if len(weights) > 8 or max(weights) > 12 or len(arrivals) > 30:
        return False
    return all([moment <= 2000 and length <= 60 for moment, _, length in arrivals])


def least_burst(weights, arrivals, flow):
    """The least burst with which the flow keeps a bucket at the rate of its share."""
    rate = Fraction(weights[flow], sum(weights))
    own = [packet for packet in arrivals if packet[1] == flow]
    found = 1
    for at, first in enumerate(own):
        for to in range(at, len(own)):
            total = sum([length for _, _, length in own[at : to + 1]])
            found = max(found, math.ceil(total - rate * (own[to][0] - first[0])))
    return found


class TestExamples(unittest.TestCase):
    def test_as_the_document_gives_them(self):
        found = [waits(SOME, schedule(TWO, SOME)), wait_bound(TWO, 0, 4, 2), wait_bound(TWO, 1, 3, 2)]
        self.assertTrue(same(found, [(2, 4, 5), (8, 1), (11, 1)]))
        full, ahead = full_arrivals(TWO, 0, 4), full_ahead(TWO, 1, 2)
        weights, near = near_behind(2)
        last = max([number for number, packet in enumerate(full) if packet[1] == 0])
        found = [ideal_ends(TWO, full)[last], extremes(TWO, ahead, schedule(TWO, ahead))[1][1]]
        self.assertTrue(same(found, [(6, 1), (4, 3)]))
        pairs = extremes(weights, near, schedule(weights, near))
        self.assertTrue(any([2 * top >= longest(weights, near) * bottom for (top, bottom), _ in pairs]))


class TestWaits(unittest.TestCase):
    def test_some(self):
        self.assertTrue(same(waits((), ()), ()))
        self.assertTrue(same(waits(((4, 9, 2),), ((0, 4),)), (2,)))
        self.assertTrue(same(waits(((4, 9, 2),), ((0, 7),)), (5,)))
        self.assertTrue(same(waits(SOME, SLOW), (2, 7, 4)))
        self.assertTrue(same(waits(SOME, ((2, 1), (1, 9), (0, 11))), (13, 11, 2)))
        self.assertTrue(same(waits(((0, BIG, 1), (BIG, 0, BIG)), ((1, BIG), (0, 3 * BIG))), (3 * BIG + 1, BIG)))

    def test_against_the_words(self):
        for weights, arrivals in CASES:
            for pairs in [schedule(weights, arrivals)] + made(81, arrivals):
                starts = dict(pairs)
                due = [starts[number] + packet[2] - packet[0] for number, packet in enumerate(arrivals)]
                with self.subTest(arrivals=arrivals, pairs=pairs):
                    self.assertTrue(same(unchanged(waits, arrivals, pairs), tuple(due)))


class TestWaitBound(unittest.TestCase):
    def test_some(self):
        self.assertTrue(same(wait_bound((1,), 0, 1, 1), (2, 1)))
        self.assertTrue(same(wait_bound((5,), 0, 7, 60), (67, 1)))
        self.assertTrue(same(wait_bound((3, 4), 0, 1, 2), (13, 3)))
        self.assertTrue(same(wait_bound((3, 4), 1, 1, 2), (15, 4)))
        self.assertTrue(same(wait_bound((6, 4), 1, 10, 1), (26, 1)))
        self.assertTrue(same(wait_bound((BIG, 1), 1, BIG, BIG), (BIG * (BIG + 1) + BIG, 1)))

    def test_for_all_sorts_of_weights(self):
        for weights in WEIGHTS:
            for flow, weight in enumerate(weights):
                for burst in (1, 2, 7, 20, 60, 199, 200):
                    for most in (1, 13, 60):
                        due = pair_of(Fraction(burst * sum(weights), weight) + most)
                        with self.subTest(weights=weights, flow=flow, burst=burst, most=most):
                            self.assertTrue(same(unchanged(wait_bound, weights, flow, burst, most), due))

    def held(self, weights, arrivals, flow, burst):
        most = longest(weights, arrivals)
        bound = number_of(wait_bound(weights, flow, burst, most))
        found = waits(arrivals, schedule(weights, arrivals))
        for number, (moment, owner, _) in enumerate(arrivals):
            if owner == flow:
                with self.subTest(weights=weights, arrivals=arrivals, number=number):
                    self.assertLessEqual(found[number], bound)
                    on_ideal_line = number_of(ideal_ends(weights, arrivals)[number]) - moment
                    self.assertLessEqual(on_ideal_line, bound - most)

    def test_waits_of_the_fair_rule_are_within_it(self):
        for weights, arrivals in CASES + chance_cases(82, 80, flows=4, packets=14):
            for flow in range(len(weights)):
                if own_longest(weights, arrivals, flow) > 0:
                    burst = least_burst(weights, arrivals, flow)
                    rate = pair_of(Fraction(weights[flow], sum(weights)))
                    self.assertEqual(judge_bucket(arrivals, flow, (burst, rate)), ("kept",))
                    self.held(weights, arrivals, flow, burst)

    def test_whatever_the_others_send(self):
        source = random.Random(83)
        for weights in WEIGHTS[2:]:
            for flow in (0, len(weights) - 1):
                rate = pair_of(Fraction(weights[flow], sum(weights)))
                own = tuple([(0, flow, source.randint(1, 6)) for _ in range(6)])
                burst = 6 + source.randint(0, 3)
                kept = shaped(own, flow, (burst, rate))
                # All others send at once, or at the moments of the flow's own packets.
                crowd = [other for other in range(len(weights)) if other != flow]
                at_once = tuple([(0, source.choice(crowd), source.randint(1, 60)) for _ in range(24)])
                with_them = tuple([(moment, source.choice(crowd), 60) for moment, _, _ in kept])
                for more in (at_once, with_them, with_them + with_them):
                    arrivals = tuple(sorted(more + kept, key=lambda packet: packet[0]))
                    self.assertEqual(judge_bucket(arrivals, flow, (burst, rate)), ("kept",))
                    self.held(weights, arrivals, flow, burst)

    def test_on_the_ideal_line_it_is_reached(self):
        arrivals = full_arrivals(TWO, 0, 4)
        last = max([number for number, packet in enumerate(arrivals) if packet[1] == 0])
        most = longest(TWO, arrivals)
        bound = number_of(wait_bound(TWO, 0, 4, most))
        self.assertEqual(number_of(ideal_ends(TWO, arrivals)[last]), bound - most)


class TestFullArrivals(unittest.TestCase):
    def held(self, weights, flow, burst):
        arrivals = unchanged(full_arrivals, weights, flow, burst)
        own = [number for number, packet in enumerate(arrivals) if packet[1] == flow]
        with self.subTest(weights=weights, flow=flow, burst=burst, arrivals=arrivals):
            self.assertIs(is_arrivals(weights, arrivals), True)
            self.assertEqual([arrivals[number][0] for number in own], [0] * len(own))
            self.assertEqual(sum([arrivals[number][2] for number in own]), burst)
            due = Fraction(burst * sum(weights), weights[flow])
            self.assertEqual(number_of(ideal_ends(weights, arrivals)[own[-1]]), due)
        return arrivals

    def test_for_bursts_from_1_to_20(self):
        for weights in WEIGHTS:
            for flow in range(len(weights)):
                for burst in range(1, 21):
                    arrivals = self.held(weights, flow, burst)
                    self.assertIs(is_within_limits(weights, arrivals), True)

    def test_one_flow_alone(self):
        for burst in (1, 2, 20):
            self.held((1,), 0, burst)
            self.held((9,), 0, burst)

    def test_somewhat_beyond_the_limits(self):
        for burst in (21, 25, 59, 60, 61, 130):
            for weights in (TWO, (1, 13), (13,) * 9):
                self.held(weights, 0, burst)
                self.held(weights, 1, burst)


class TestNearBehind(unittest.TestCase):
    def held(self, k):
        found = unchanged(near_behind, k)
        with self.subTest(k=k, found=found):
            self.assertEqual([type(found), len(found)], [tuple, 2])
            weights, arrivals = found
            self.assertIs(is_weights(weights), True)
            self.assertIs(is_arrivals(weights, arrivals), True)
            self.assertGreaterEqual(len(arrivals), 1)
            pairs = schedule(weights, arrivals)
            due = longest(weights, arrivals) * (1 - Fraction(1, k))
            self.assertGreaterEqual(max([number_of(behind) for behind, _ in extremes(weights, arrivals, pairs)]), due)
            self.assertGreaterEqual(max([behind for behind, _ in Distance(weights, arrivals, pairs).extremes()]), due)
        return found

    def test_for_k_from_1_to_10(self):
        for k in range(1, 11):
            self.assertIs(is_within_limits(*self.held(k)), True)

    def test_somewhat_beyond_the_limits(self):
        for k in (11, 12, 15, 40):
            self.held(k)


class TestFullAhead(unittest.TestCase):
    def held(self, weights, flow, length):
        arrivals = unchanged(full_ahead, weights, flow, length)
        pairs = schedule(weights, arrivals)
        with self.subTest(weights=weights, flow=flow, length=length, arrivals=arrivals):
            self.assertIs(is_arrivals(weights, arrivals), True)
            self.assertTrue(same(own_longest(weights, arrivals, flow), length))
            due = length * (1 - Fraction(weights[flow], sum(weights)))
            self.assertTrue(same(extremes(weights, arrivals, pairs)[flow][1], pair_of(due)))
        return arrivals

    def test_for_all_lengths_within_the_limits(self):
        for weights in WEIGHTS:
            for flow in range(len(weights)):
                for length in range(1, 59 // max(weights) + 1):
                    arrivals = self.held(weights, flow, length)
                    self.assertIs(is_within_limits(weights, arrivals), True)

    def test_against_the_reckoning(self):
        for weights, flow, length in ((TWO, 0, 5), (TWO, 1, 29), ((6, 4, 3), 2, 9), ((1, 12), 0, 4), ((1,), 0, 59)):
            arrivals = full_ahead(weights, flow, length)
            found = Distance(weights, arrivals, schedule(weights, arrivals)).extremes()[flow][1]
            self.assertEqual(found, length * (1 - Fraction(weights[flow], sum(weights))))

    def test_one_flow_alone_is_never_ahead(self):
        for length in (1, 4, 59):
            arrivals = self.held((3,), 0, length)
            self.assertEqual(extremes((3,), arrivals, schedule((3,), arrivals)), (((0, 1), (0, 1)),))

    def test_somewhat_beyond_the_limits(self):
        for length in (5, 60, 61):
            for weights in ((1, 12), (12, 13), (13,) * 9):
                self.held(weights, 0, length)
                self.held(weights, 1, length)


class TestSchedulesOfTheExamples(unittest.TestCase):
    def test_the_fair_one_is_the_one_that_is_meant(self):
        self.assertEqual(schedule(TWO, SOME), FAIR)


if __name__ == "__main__":
    unittest.main()
