"""The ideal line: giving [2.1] and busy stretches [2.2]."""

import unittest
from fractions import Fraction

from fairqueue.clock import clock, moment_of, tags
from fairqueue.ideal import busy, ideal_ends, ideal_given
from tests.support import CASES, SOME, TWO, Reckoning, moments_of, number_of, pair_of, same, unchanged


def busy_until(stretches, moment):
    """How long the line has been busy until the moment."""
    return sum([min(max(moment - begin, 0), end - begin) for begin, end in stretches])


class TestExamples(unittest.TestCase):
    def test_as_the_document_gives_them(self):
        found = [
            ideal_ends(TWO, SOME),
            ideal_given(TWO, SOME, (2, 1)),
            ideal_given(TWO, SOME, (9, 1)),
            busy(TWO, SOME),
            busy(TWO, SOME[:1] + ((5, 1, 1),)),
        ]
        due = [
            ((3, 1), (6, 1), (6, 1)),
            ((4, 3), (2, 3)),
            ((4, 1), (2, 1)),
            ((0, 6),),
            ((0, 2), (5, 6)),
        ]
        self.assertTrue(same(found, due))


class TestIdealEnds(unittest.TestCase):
    def test_some(self):
        self.assertTrue(same(ideal_ends(TWO, ()), ()))
        self.assertEqual(ideal_ends((7,), ((3, 0, 2),)), ((5, 1),))
        self.assertEqual(ideal_ends((1, 1), ((0, 0, 1), (0, 1, 2))), ((2, 1), (3, 1)))
        self.assertEqual(ideal_ends((1, 2), ((0, 0, 3), (1, 1, 1))), ((4, 1), (5, 2)))
        self.assertEqual(ideal_ends((3, 4), ((0, 0, 1), (0, 1, 1))), ((2, 1), (7, 4)))

    def test_other_weights_for_the_same_arrivals(self):
        arrivals = ((0, 0, 6), (0, 1, 6))
        self.assertEqual(ideal_ends((1, 1), arrivals), ((12, 1), (12, 1)))
        self.assertEqual(ideal_ends((2, 1), arrivals), ((9, 1), (12, 1)))
        self.assertEqual(ideal_ends((1, 5), arrivals), ((12, 1), (36, 5)))

    def test_against_the_reckoning(self):
        for weights, arrivals in CASES:
            with self.subTest(weights=weights, arrivals=arrivals):
                found = unchanged(ideal_ends, weights, arrivals)
                self.assertIs(type(found), tuple)
                self.assertEqual([number_of(end) for end in found], Reckoning(weights, arrivals).ends)

    def test_an_end_is_the_least_moment_at_which_the_packet_has_been_given_whole(self):
        tiny = Fraction(1, 10**30)
        for weights, arrivals in CASES[::3]:
            for number, end in enumerate(ideal_ends(weights, arrivals)):
                flow = arrivals[number][1]
                due = sum([length for _, owner, length in arrivals[: number + 1] if owner == flow])
                before = ideal_given(weights, arrivals, pair_of(number_of(end) - tiny))
                with self.subTest(weights=weights, arrivals=arrivals, number=number):
                    self.assertGreaterEqual(number_of(ideal_given(weights, arrivals, end)[flow]), due)
                    self.assertLess(number_of(before[flow]), due)

    def test_an_end_is_the_moment_of_the_end_tag_and_the_clock_is_that_then(self):
        for weights, arrivals in CASES:
            found = ideal_ends(weights, arrivals)
            for end, (_, last) in zip(found, tags(weights, arrivals)):
                with self.subTest(weights=weights, arrivals=arrivals, end=end):
                    self.assertEqual(moment_of(weights, arrivals, last), end)
                    self.assertEqual(clock(weights, arrivals, end), last)

    def test_common_weights_change_nothing(self):
        for weights, arrivals in CASES[::2]:
            with self.subTest(weights=weights, arrivals=arrivals):
                threefold = tuple([3 * weight for weight in weights])
                self.assertEqual(ideal_ends(threefold, arrivals), ideal_ends(weights, arrivals))


class TestIdealGiven(unittest.TestCase):
    def test_some(self):
        self.assertTrue(same(ideal_given(TWO, (), (3, 7)), ((0, 1), (0, 1))))
        self.assertTrue(same(ideal_given((5,), ((2, 0, 3),), (7, 2)), ((3, 2),)))
        self.assertTrue(same(ideal_given((5,), ((2, 0, 3),), (2, 1)), ((0, 1),)))
        self.assertTrue(same(ideal_given((5,), ((2, 0, 3),), (5, 1)), ((3, 1),)))
        self.assertTrue(same(ideal_given((1, 2, 4), ((0, 2, 5), (0, 0, 1)), (1, 1)), ((1, 5), (0, 1), (4, 5))))
        self.assertTrue(same(ideal_given(TWO, SOME, (0, 1)), ((0, 1), (0, 1))))

    def test_against_the_reckoning(self):
        for weights, arrivals in CASES:
            reckoning = Reckoning(weights, arrivals)
            for moment in moments_of(reckoning):
                with self.subTest(weights=weights, arrivals=arrivals, moment=moment):
                    found = ideal_given(weights, arrivals, pair_of(moment))
                    self.assertIs(type(found), tuple)
                    self.assertEqual(tuple([number_of(amount) for amount in found]), reckoning.at(moment)[1])

    def test_what_is_given_adds_up_to_the_busy_time(self):
        for weights, arrivals in CASES:
            stretches = busy(weights, arrivals)
            for moment in moments_of(Reckoning(weights, arrivals))[::2]:
                with self.subTest(weights=weights, arrivals=arrivals, moment=moment):
                    found = unchanged(ideal_given, weights, arrivals, pair_of(moment))
                    self.assertEqual(sum([number_of(amount) for amount in found]), busy_until(stretches, moment))

    def test_at_the_end_everything_has_been_given(self):
        for weights, arrivals in CASES:
            own = [sum([length for _, owner, length in arrivals if owner == flow]) for flow in range(len(weights))]
            with self.subTest(weights=weights, arrivals=arrivals):
                found = ideal_given(weights, arrivals, (10**140, 1))
                self.assertTrue(same(found, tuple([(amount, 1) for amount in own])))

    def test_flows_that_never_send_change_nothing(self):
        for weights, arrivals in CASES[::4]:
            more = weights + (11,)
            shifted = tuple([(moment, flow + 1, length) for moment, flow, length in arrivals])
            with self.subTest(weights=weights, arrivals=arrivals):
                self.assertEqual(ideal_ends(more, arrivals), ideal_ends(weights, arrivals))
                self.assertEqual(ideal_ends((9,) + weights, shifted), ideal_ends(weights, arrivals))
                for moment in ((5, 2), (7, 1), (100, 3)):
                    found = ideal_given(weights, arrivals, moment)
                    self.assertEqual(ideal_given(more, arrivals, moment), found + ((0, 1),))
                    self.assertEqual(ideal_given((9,) + weights, shifted, moment), ((0, 1),) + found)

    def test_packets_that_arrive_later_change_nothing_before(self):
        for weights, arrivals in CASES[::4]:
            for many in range(len(arrivals)):
                moment = (2 * arrivals[many][0] - 1, 2)
                if moment[0] > 0:
                    with self.subTest(weights=weights, arrivals=arrivals, many=many):
                        known = tuple([packet for packet in arrivals if 2 * packet[0] < moment[0]])
                        found = ideal_given(weights, arrivals, moment)
                        self.assertEqual(ideal_given(weights, known, moment), found)


class TestBusy(unittest.TestCase):
    def test_some(self):
        self.assertTrue(same(busy(TWO, ()), ()))
        self.assertTrue(same(busy((5,), ((0, 0, 3),)), ((0, 3),)))
        self.assertTrue(same(busy((5,), ((4, 0, 3),)), ((4, 7),)))
        self.assertTrue(same(busy(TWO, ((0, 0, 3), (1, 1, 2), (7, 0, 1))), ((0, 5), (7, 8))))
        self.assertTrue(same(busy(TWO, ((2, 0, 1), (2, 1, 1), (2, 0, 1))), ((2, 5),)))

    def test_stretches_that_touch_are_one(self):
        self.assertTrue(same(busy(TWO, ((0, 0, 2), (2, 1, 3))), ((0, 5),)))
        self.assertTrue(same(busy(TWO, ((0, 0, 2), (2, 0, 3), (5, 0, 1), (6, 1, 1))), ((0, 7),)))
        self.assertTrue(same(busy(TWO, ((0, 0, 2), (3, 1, 3))), ((0, 2), (3, 6))))
        self.assertTrue(same(busy(TWO, ((1, 0, 1), (2, 0, 1), (4, 0, 1), (5, 0, 1))), ((1, 3), (4, 6))))

    def test_against_the_reckoning(self):
        for weights, arrivals in CASES:
            states = Reckoning(weights, arrivals).states
            due = []
            for (begin, _, _, waiting), (end, _, _, _) in zip(states, states[1:]):
                if not waiting:
                    continue
                if due and due[-1][1] == begin:
                    begin = due.pop()[0]
                due.append((begin, end))
            with self.subTest(weights=weights, arrivals=arrivals):
                found = unchanged(busy, weights, arrivals)
                self.assertTrue(same(found, tuple([(int(begin), int(end)) for begin, end in due])))

    def test_the_same_for_all_weights_and_all_flows_of_the_packets(self):
        for weights, arrivals in CASES:
            found = busy(weights, arrivals)
            swapped = tuple([(moment, number % 3, length) for number, (moment, _, length) in enumerate(arrivals)])
            with self.subTest(weights=weights, arrivals=arrivals):
                self.assertEqual(busy(weights[::-1], arrivals), found)
                self.assertEqual(busy(tuple([1 for _ in weights]), arrivals), found)
                self.assertEqual(busy((1, 12, 5), swapped), found)


if __name__ == "__main__":
    unittest.main()
