"""Weights [1.1], arrivals [1.2] and the functions of fairqueue.flows."""

import math
import unittest
from fractions import Fraction

from fairqueue.errors import BadArrivals, BadFlow, BadWeights
from fairqueue.flows import is_arrivals, is_weights, longest, own_longest, share
from tests.support import (
    ARRIVALS,
    BIG,
    NOT_ARRIVALS,
    NOT_FLOWS,
    NOT_WEIGHTS,
    SOME,
    TWO,
    caught,
    same,
    unchanged,
)

WEIGHTS = (TWO, (1,), (12,), (1, 1), (1, 2, 3), (12,) * 8, (13,) * 9, (BIG,), (BIG, 1, BIG))


class TestExamples(unittest.TestCase):
    def test_as_the_document_gives_them(self):
        found = [
            is_weights(()),
            is_arrivals(TWO, SOME),
            is_arrivals(TWO, SOME[::-1]),
            share(TWO, 0),
            longest(TWO, SOME),
            own_longest(TWO, SOME[1:2], 0),
        ]
        self.assertTrue(same(found, [False, True, False, (2, 3), 2, 0]))


class TestWeights(unittest.TestCase):
    def test_weights(self):
        for weights in WEIGHTS:
            with self.subTest(weights):
                self.assertIs(unchanged(is_weights, weights), True)

    def test_no_weights(self):
        for thing in NOT_WEIGHTS:
            with self.subTest(thing):
                self.assertIs(unchanged(is_weights, thing), False)

    def test_by_name(self):
        self.assertIs(is_weights(thing=TWO), True)
        self.assertIs(is_weights(thing=[2, 1]), False)


class TestArrivals(unittest.TestCase):
    def test_arrivals(self):
        for arrivals in ARRIVALS:
            with self.subTest(arrivals):
                self.assertIs(unchanged(is_arrivals, TWO, arrivals), True)

    def test_no_arrivals(self):
        for thing in NOT_ARRIVALS:
            with self.subTest(thing):
                self.assertIs(unchanged(is_arrivals, TWO, thing), False)

    def test_flows_are_those_of_the_weights(self):
        for weights in WEIGHTS:
            for flow in range(-1, 10):
                with self.subTest(weights=weights, flow=flow):
                    known = 0 <= flow < len(weights)
                    self.assertIs(is_arrivals(weights, ((0, flow, 1),)), known)

    def test_moments_may_be_equal_and_must_not_descend(self):
        for first in range(3):
            for second in range(3):
                for third in range(3):
                    moments = [first, second, third]
                    arrivals = tuple([(moment, 0, 1) for moment in moments])
                    with self.subTest(moments):
                        self.assertIs(is_arrivals((1,), arrivals), first <= second <= third)

    def test_by_name(self):
        self.assertIs(is_arrivals(weights=TWO, thing=SOME), True)
        self.assertIs(is_arrivals(thing=SOME[::-1], weights=TWO), False)


class TestShare(unittest.TestCase):
    def test_some(self):
        self.assertEqual(share(TWO, 1), (1, 3))
        self.assertEqual(share((5,), 0), (1, 1))
        self.assertEqual(share((2, 4), 1), (2, 3))
        self.assertEqual(share((6, 4, 2), 0), (1, 2))
        self.assertEqual(share((BIG, BIG), 1), (1, 2))
        self.assertEqual(share((10**39, 3 * 10**39), 1), (3, 4))

    def test_is_the_weight_over_the_sum_in_lowest_terms(self):
        for weights in WEIGHTS + tuple([(a, b, c) for a in range(1, 7) for b in (1, 4) for c in (2, 9)]):
            for flow, weight in enumerate(weights):
                with self.subTest(weights=weights, flow=flow):
                    found = unchanged(share, weights, flow)
                    top, bottom = found
                    self.assertEqual([type(found), type(top), type(bottom)], [tuple, int, int])
                    self.assertEqual(Fraction(top, bottom), Fraction(weight, sum(weights)))
                    self.assertGreater(bottom, 0)
                    self.assertEqual(math.gcd(top, bottom), 1)

    def test_by_name(self):
        self.assertEqual(share(weights=TWO, flow=0), (2, 3))
        self.assertEqual(share(flow=1, weights=TWO), (1, 3))


class TestLongest(unittest.TestCase):
    def test_longest(self):
        self.assertEqual(longest(TWO, ()), 0)
        self.assertEqual(longest(TWO, ((4, 1, 1),)), 1)
        self.assertEqual(longest(TWO, ((0, 0, 3), (0, 1, 9), (1, 0, 5))), 9)
        self.assertEqual(longest((1,), ((0, 0, BIG), (0, 0, 1))), BIG)

    def test_own_longest(self):
        arrivals = ((0, 0, 3), (0, 1, 9), (1, 0, 5), (2, 1, 4), (2, 0, 1))
        found = [unchanged(own_longest, (1, 1, 1), arrivals, flow) for flow in range(3)]
        self.assertTrue(same(found, [5, 9, 0]))
        self.assertEqual(own_longest((1,), (), 0), 0)
        self.assertEqual(own_longest(TWO, ((0, 1, BIG),), 1), BIG)
        self.assertEqual(own_longest(TWO, ((0, 1, BIG),), 0), 0)

    def test_the_longest_is_the_greatest_own_one(self):
        for arrivals in ARRIVALS:
            with self.subTest(arrivals):
                own = [own_longest(TWO, arrivals, flow) for flow in range(2)]
                self.assertTrue(same(unchanged(longest, TWO, arrivals), max(own)))

    def test_by_name(self):
        self.assertEqual(longest(weights=TWO, arrivals=SOME), 2)
        self.assertEqual(longest(arrivals=SOME[:0], weights=TWO), 0)
        self.assertEqual(own_longest(weights=TWO, arrivals=SOME, flow=1), 2)
        self.assertEqual(own_longest(flow=0, arrivals=SOME[1:2], weights=TWO), 0)


class TestErrors(unittest.TestCase):
    # By position only, so that the call may be passed a keyword of the same name.
    def raised(self, kind, thing, call, /, *values, **named):
        with self.subTest(call=call.__name__, thing=thing):
            error = caught(call, *values, **named)
            self.assertIs(type(error), kind)
            self.assertIs(error.thing, thing)

    def test_bad_weights(self):
        for thing in NOT_WEIGHTS:
            self.raised(BadWeights, thing, is_arrivals, thing, SOME)
            self.raised(BadWeights, thing, share, thing, 0)
            self.raised(BadWeights, thing, longest, thing, SOME)
            self.raised(BadWeights, thing, own_longest, thing, SOME, 0)

    def test_bad_weights_even_with_no_packets(self):
        for thing in ((), (0,), [1], None):
            self.raised(BadWeights, thing, is_arrivals, thing, ())
            self.raised(BadWeights, thing, longest, thing, ())
            self.raised(BadWeights, thing, own_longest, thing, (), 0)

    def test_bad_arrivals(self):
        for thing in NOT_ARRIVALS:
            self.raised(BadArrivals, thing, longest, TWO, thing)
            self.raised(BadArrivals, thing, own_longest, TWO, thing, 0)

    def test_bad_flow(self):
        for thing in NOT_FLOWS:
            self.raised(BadFlow, thing, share, TWO, thing)
            self.raised(BadFlow, thing, own_longest, TWO, SOME, thing)
            self.raised(BadFlow, thing, own_longest, TWO, (), thing)

    def test_bad_flow_just_beyond_the_weights(self):
        for weights in WEIGHTS:
            self.raised(BadFlow, len(weights), share, weights, len(weights))
            self.raised(BadFlow, len(weights), own_longest, weights, (), len(weights))

    def test_several_at_once_raise_that_of_the_first(self):
        for weights in (None, [2, 1], (2, 0), (True, 1), ()):
            for arrivals in (None, [], ((0, 0, 0),), SOME[::-1], weights):
                for flow in (None, -1, 2, False, BIG, weights):
                    self.raised(BadWeights, weights, is_arrivals, weights, arrivals)
                    self.raised(BadWeights, weights, longest, weights, arrivals)
                    self.raised(BadWeights, weights, share, weights, flow)
                    self.raised(BadWeights, weights, own_longest, weights, arrivals, flow)
                    self.raised(BadWeights, weights, own_longest, weights, arrivals, 0)
                    self.raised(BadWeights, weights, own_longest, weights, SOME, flow)

    def test_arrivals_come_before_the_flow(self):
        for arrivals in (None, [], ((0, 0, 0),), ((0, 2, 1),), SOME[::-1]):
            for flow in (None, -1, 2, False, "0", BIG):
                self.raised(BadArrivals, arrivals, own_longest, TWO, arrivals, flow)

    def test_the_order_is_the_same_by_name(self):
        weights, arrivals, flow = [2, 1], [3], [4]
        self.raised(BadWeights, weights, share, flow=flow, weights=weights)
        self.raised(BadWeights, weights, is_arrivals, thing=arrivals, weights=weights)
        self.raised(BadWeights, weights, longest, arrivals=arrivals, weights=weights)
        self.raised(BadWeights, weights, own_longest, flow=flow, arrivals=arrivals, weights=weights)
        self.raised(BadArrivals, arrivals, own_longest, flow=flow, arrivals=arrivals, weights=TWO)
        self.raised(BadFlow, flow, own_longest, flow=flow, arrivals=SOME, weights=TWO)

    def test_the_same_call_gives_the_same_again(self):
        weights = [2, 1]
        for _ in range(2):
            self.raised(BadWeights, weights, share, weights, 0)
            self.assertEqual(share(TWO, 0), (2, 3))


if __name__ == "__main__":
    unittest.main()
