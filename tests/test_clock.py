"""The clock [3.1] and the tags [3.2]."""

import unittest
from fractions import Fraction

from fairqueue.clock import clock, moment_of, tags
from tests.support import CASES, SOME, TWO, Reckoning, moments_of, number_of, pair_of, same, unchanged

# The flow 0 is given 2, the line stands still from 2 to 5, and the clock is 1 then.
STILL = ((0, 0, 2), (5, 1, 3))


class TestExamples(unittest.TestCase):
    def test_as_the_document_gives_them(self):
        found = [
            clock(TWO, SOME, (1, 1)),
            clock(TWO, SOME, (7, 1)),
            tags(TWO, SOME),
            moment_of(TWO, SOME, (1, 1)),
            moment_of(TWO, SOME, (5, 2)),
        ]
        due = [(1, 3), (2, 1), (((0, 1), (1, 1)), ((0, 1), (2, 1)), ((1, 1), (2, 1))), (3, 1), None]
        self.assertTrue(same(found, due))


class TestClock(unittest.TestCase):
    def test_some(self):
        self.assertTrue(same(clock(TWO, (), (0, 1)), (0, 1)))
        self.assertTrue(same(clock(TWO, (), (9, 4)), (0, 1)))
        self.assertTrue(same(clock((4,), ((3, 0, 2),), (3, 1)), (0, 1)))
        self.assertTrue(same(clock((4,), ((3, 0, 2),), (4, 1)), (1, 4)))
        self.assertTrue(same(clock((4,), ((3, 0, 2),), (6, 1)), (1, 2)))
        self.assertTrue(same(clock(TWO, SOME, (3, 10**30)), (1, 10**30)))

    def test_it_stands_still_while_no_flow_waits(self):
        for moment in ((2, 1), (3, 1), (9, 2), (5, 1)):
            self.assertEqual(clock(TWO, STILL, moment), (1, 1))
        self.assertEqual(clock(TWO, STILL, (6, 1)), (2, 1))
        self.assertEqual(clock(TWO, STILL, (8, 1)), (4, 1))
        self.assertEqual(clock(TWO, STILL, (10**140, 3)), (4, 1))

    def test_other_weights_for_the_same_arrivals(self):
        found = [clock(weights, SOME, (2, 1)) for weights in ((1, 1), (2, 2), (1, 5), (7, 1, 9))]
        self.assertTrue(same(found, [(1, 1), (1, 2), (1, 3), (1, 4)]))

    def test_against_the_reckoning(self):
        for weights, arrivals in CASES:
            reckoning = Reckoning(weights, arrivals)
            for moment in moments_of(reckoning):
                with self.subTest(weights=weights, arrivals=arrivals, moment=moment):
                    found = unchanged(clock, weights, arrivals, pair_of(moment))
                    self.assertEqual(number_of(found), reckoning.at(moment)[0])

    def test_it_is_at_most_the_moment_and_does_not_descend(self):
        for weights, arrivals in CASES:
            before = Fraction(0)
            for moment in moments_of(Reckoning(weights, arrivals))[::3]:
                with self.subTest(weights=weights, arrivals=arrivals, moment=moment):
                    value = number_of(clock(weights, arrivals, pair_of(moment)))
                    self.assertLessEqual(before, value)
                    self.assertLessEqual(value, moment)
                    before = value


class TestTags(unittest.TestCase):
    def test_some(self):
        self.assertTrue(same(tags(TWO, ()), ()))
        self.assertTrue(same(tags((4,), ((3, 0, 2),)), (((0, 1), (1, 2)),)))
        self.assertTrue(same(tags(TWO, STILL), (((0, 1), (1, 1)), ((1, 1), (4, 1)))))
        self.assertTrue(same(tags((3, 1), ((0, 0, 1), (0, 0, 1))), (((0, 1), (1, 3)), ((1, 3), (2, 3)))))
        # The flow 1 has been idle, so its second packet begins at the clock, not at its end tag.
        self.assertTrue(same(tags((1, 1), ((0, 0, 9), (0, 1, 1), (4, 1, 1)))[2], ((3, 1), (4, 1))))
        # Here the clock at its moment is just the end tag before it.
        self.assertTrue(same(tags((1, 1), ((0, 0, 9), (0, 1, 1), (2, 1, 1)))[2], ((1, 1), (2, 1))))

    def test_by_the_words_of_the_document_and_the_clock_of_the_reckoning(self):
        for weights, arrivals in CASES:
            with self.subTest(weights=weights, arrivals=arrivals):
                found = unchanged(tags, weights, arrivals)
                self.assertEqual([type(found)] + [type(pair) for pair in found], [tuple] * (len(arrivals) + 1))
                found = [(number_of(begin), number_of(end)) for begin, end in found]
                self.assertEqual(found, Reckoning(weights, arrivals).tags(arrivals))

    def test_they_stay_when_packets_are_added_behind(self):
        for weights, arrivals in CASES[::2]:
            found = tags(weights, arrivals)
            for many in range(len(arrivals) + 1):
                with self.subTest(weights=weights, arrivals=arrivals, many=many):
                    self.assertEqual(tags(weights, arrivals[:many]), found[:many])

    def test_they_stay_when_packets_are_added_at_the_same_moment(self):
        for weights, arrivals in CASES[::2]:
            last = max([moment for moment, _, _ in arrivals], default=0)
            for flow in range(len(weights)):
                for more in (((last, flow, 5),), ((last, flow, 1), (last, 0, 60)), ((last + 1, flow, 7),)):
                    with self.subTest(weights=weights, arrivals=arrivals, more=more):
                        found = tags(weights, arrivals + more)[: len(arrivals)]
                        self.assertEqual(found, tags(weights, arrivals))

    def test_flows_that_never_send_change_nothing(self):
        for weights, arrivals in CASES[::2]:
            with self.subTest(weights=weights, arrivals=arrivals):
                self.assertEqual(tags(weights + (5, 12), arrivals), tags(weights, arrivals))

    def test_a_packet_has_begun_just_when_the_clock_is_at_least_its_begin_tag(self):
        for weights, arrivals in CASES[::3]:
            reckoning = Reckoning(weights, arrivals)
            pairs = tags(weights, arrivals)
            for number, (moment, flow, _) in enumerate(arrivals):
                before = sum([length for _, owner, length in arrivals[:number] if owner == flow])
                begun = [begin for begin in moments_of(reckoning) if reckoning.at(begin)[1][flow] > before]
                with self.subTest(weights=weights, arrivals=arrivals, number=number):
                    first = number_of(moment_of(weights, arrivals, pairs[number][0]))
                    self.assertLess(max(first, moment), begun[0])
                    self.assertEqual(reckoning.at(max(first, Fraction(moment)))[1][flow], before)


class TestMomentOf(unittest.TestCase):
    def test_some(self):
        self.assertTrue(same(moment_of(TWO, SOME, (1, 3)), (1, 1)))
        self.assertTrue(same(moment_of(TWO, SOME, (2, 1)), (6, 1)))
        self.assertTrue(same(moment_of((4,), ((3, 0, 2),), (1, 4)), (4, 1)))
        self.assertTrue(same(moment_of((4,), ((3, 0, 2),), (1, 10**140)), pair_of(3 + Fraction(4, 10**140))))

    def test_the_value_0_is_reached_at_once(self):
        for weights, arrivals in CASES:
            with self.subTest(weights=weights, arrivals=arrivals):
                self.assertTrue(same(moment_of(weights, arrivals, (0, 1)), (0, 1)))

    def test_where_it_stands_still_it_is_the_moment_at_which_it_came_to_stand(self):
        self.assertTrue(same(moment_of(TWO, STILL, (1, 1)), (2, 1)))
        self.assertTrue(same(moment_of(TWO, STILL, (4, 1)), (8, 1)))
        self.assertTrue(same(moment_of(TWO, STILL, (10**30 + 1, 10**30)), (5 * 10**30 + 1, 10**30)))

    def test_none_if_it_never_is_at_least_the_value(self):
        for value in ((1, 10**140), (1, 1), (10**140, 1)):
            self.assertIs(moment_of(TWO, (), value), None)
        for value in ((4 * 10**30 + 1, 10**30), (5, 1), (10**140, 1), (10**140, 10**140 // 4 - 1)):
            self.assertIs(moment_of(TWO, STILL, value), None)

    def test_it_is_the_least_moment(self):
        tiny = Fraction(1, 10**30)
        for weights, arrivals in CASES:
            reckoning = Reckoning(weights, arrivals)
            values = sorted({reckoning.at(moment)[0] for moment in moments_of(reckoning)})
            for value in values:
                with self.subTest(weights=weights, arrivals=arrivals, value=value):
                    found = number_of(unchanged(moment_of, weights, arrivals, pair_of(value)))
                    self.assertEqual(reckoning.at(found)[0], value)
                    if found:
                        self.assertLess(reckoning.at(max(found - tiny, Fraction(0)))[0], value)
            with self.subTest(weights=weights, arrivals=arrivals):
                self.assertIs(moment_of(weights, arrivals, pair_of(values[-1] + tiny)), None)


if __name__ == "__main__":
    unittest.main()
