"""Schedules [5.1] and what they send [5.2]."""

import itertools
import unittest
from fractions import Fraction

from fairqueue.fair import schedule
from fairqueue.schedules import ends, is_busy, is_schedule, sent
from tests.support import (
    BIG,
    CASES,
    FAIR,
    NOT_SCHEDULES,
    SLOW,
    SOME,
    TWO,
    in_order,
    made,
    number_of,
    pair_of,
    same,
    sent_until,
    unchanged,
)


def paused(arrivals, pairs):
    """Whether the line pauses while a packet is waiting, asked at the middle of each unit of time."""
    sending, last = {}, 0
    for number, start in pairs:
        last = start + arrivals[number][2]
        sending.update({time: number for time in range(start, last)})
    starts = dict(pairs)
    for time in range(last):
        waiting = [number for number, packet in enumerate(arrivals) if packet[0] <= time < starts[number]]
        if waiting and time not in sending:
            return True
    return False


class TestExamples(unittest.TestCase):
    def test_as_the_document_gives_them(self):
        found = [
            is_schedule(TWO, SOME, SLOW),
            is_schedule(TWO, SOME, ((0, 0), (1, 1), (2, 4))),
            is_busy(TWO, SOME, FAIR),
            is_busy(TWO, SOME, SLOW),
            ends(TWO, SOME, SLOW),
            sent(TWO, SOME, FAIR, (5, 2)),
        ]
        self.assertTrue(same(found, [True, False, True, False, (2, 7, 5), ((2, 1), (1, 2))]))


class TestIsSchedule(unittest.TestCase):
    def test_in_any_order_and_with_pauses(self):
        for order in itertools.permutations(range(3)):
            for pauses in itertools.product((0, 1, 20000), repeat=3):
                pairs = in_order(SOME, order, pauses)
                with self.subTest(pairs):
                    self.assertIs(unchanged(is_schedule, TWO, SOME, pairs), True)
        for weights, arrivals in CASES:
            for pairs in made(5, arrivals):
                with self.subTest(weights=weights, arrivals=arrivals, pairs=pairs):
                    self.assertIs(is_schedule(weights, arrivals, pairs), True)

    def test_no_packets(self):
        self.assertIs(is_schedule(TWO, (), ()), True)
        for thing in ([], {}, None, "", 0, False, ((),), ((0, 0),), FAIR, set()):
            with self.subTest(thing):
                self.assertIs(is_schedule(TWO, (), thing), False)

    def test_no_schedules(self):
        for thing in NOT_SCHEDULES:
            with self.subTest(thing):
                self.assertIs(unchanged(is_schedule, TWO, SOME, thing), False)

    def test_far_starts(self):
        self.assertIs(is_schedule(TWO, SOME, ((2, BIG), (0, BIG + 2), (1, BIG + 4))), True)
        self.assertIs(is_schedule(TWO, SOME, ((2, BIG), (0, BIG + 1), (1, BIG + 4))), False)

    def test_one_thing_otherwise(self):
        for weights, arrivals in CASES[::2]:
            for pairs in made(6, arrivals):
                for at, (number, start) in enumerate(pairs):
                    wrong = [
                        (number,),
                        (number, start, start),
                        [number, start],
                        (number, None),
                        (str(number), start),
                        (number, str(start)),
                        (len(arrivals), start),
                        (-1, start),
                        (number - len(arrivals), start),
                        (number, -1),
                        pairs[at - 1] if at else None,
                        (pairs[at - 1][0], start) if at else None,
                    ]
                    if number < 2:
                        wrong += [(bool(number), start)]
                    if start < 2:
                        wrong += [(number, bool(start))]
                    # Without a pause before it, one too early is before the packet or in the one before.
                    if pairs[at] in in_order(arrivals, [each for each, _ in pairs], [0 for _ in pairs]):
                        wrong += [(number, start - 1)]
                    for pair in wrong:
                        thing = pairs[:at] + (pair,) + pairs[at + 1 :]
                        with self.subTest(weights=weights, arrivals=arrivals, thing=thing):
                            self.assertIs(is_schedule(weights, arrivals, thing), False)
                    for thing in (pairs[:at] + pairs[at + 1 :], pairs[: at + 1] + pairs[at:], list(pairs)):
                        with self.subTest(weights=weights, arrivals=arrivals, thing=thing):
                            self.assertIs(is_schedule(weights, arrivals, thing), False)

    def test_a_start_that_is_just_late_enough(self):
        arrivals = ((3, 0, 2), (4, 1, 5))
        for first in range(7):
            for second in range(12):
                with self.subTest(first=first, second=second):
                    due = first >= 3 and second >= max(4, first + 2)
                    self.assertIs(is_schedule(TWO, arrivals, ((0, first), (1, second))), due)
                    due = first >= 4 and second >= first + 5
                    self.assertIs(is_schedule(TWO, arrivals, ((1, first), (0, second))), due)

    def test_it_is_asked_about_the_arrivals_that_are_passed(self):
        self.assertIs(is_schedule(TWO, SOME[:2], FAIR[:2]), True)
        self.assertIs(is_schedule(TWO, SOME[:2], FAIR), False)
        self.assertIs(is_schedule(TWO, ((0, 0, 3),) + SOME[1:], FAIR), False)
        self.assertIs(is_schedule(TWO, ((0, 0, 1),) + SOME[1:], FAIR), True)
        self.assertIs(is_schedule(TWO, ((1, 0, 1),) + SOME[2:] * 2, FAIR), False)


class TestIsBusy(unittest.TestCase):
    def test_some(self):
        self.assertIs(is_busy(TWO, (), ()), True)
        self.assertIs(is_busy(TWO, ((4, 0, 2),), ((0, 4),)), True)
        self.assertIs(is_busy(TWO, ((4, 0, 2),), ((0, 5),)), False)
        self.assertIs(is_busy(TWO, SOME, ((1, 0), (2, 2), (0, 4))), True)
        self.assertIs(is_busy(TWO, SOME, ((1, 0), (2, 2), (0, 5))), False)
        # The line waits for the packet 2, while another one waits for the line.
        self.assertIs(is_busy(TWO, SOME, ((2, 1), (0, 3), (1, 5))), False)

    def test_a_pause_while_nothing_waits(self):
        arrivals = ((0, 0, 2), (5, 1, 1), (7, 0, 1))
        self.assertIs(is_busy(TWO, arrivals, ((0, 0), (1, 5), (2, 7))), True)
        self.assertIs(is_busy(TWO, arrivals, ((0, 0), (1, 6), (2, 7))), False)
        self.assertIs(is_busy(TWO, arrivals, ((0, 0), (2, 7), (1, 8))), False)
        self.assertIs(is_busy(TWO, arrivals, ((0, 1), (1, 5), (2, 7))), False)

    def test_against_each_unit_of_time(self):
        answers = {True: 0, False: 0}
        for weights, arrivals in CASES:
            for pairs in made(8, arrivals):
                due = not paused(arrivals, pairs)
                answers[due] += 1
                with self.subTest(weights=weights, arrivals=arrivals, pairs=pairs):
                    self.assertIs(unchanged(is_busy, weights, arrivals, pairs), due)
        self.assertGreater(min(answers.values()), 50)


class TestEnds(unittest.TestCase):
    def test_some(self):
        self.assertTrue(same(ends(TWO, (), ()), ()))
        self.assertTrue(same(ends(TWO, SOME, FAIR), (2, 4, 6)))
        self.assertTrue(same(ends(TWO, SOME, ((2, 1), (1, 9), (0, 11))), (13, 11, 3)))

    def test_they_are_by_numbers_not_by_starts(self):
        for weights, arrivals in CASES:
            for pairs in made(9, arrivals):
                with self.subTest(weights=weights, arrivals=arrivals, pairs=pairs):
                    found = unchanged(ends, weights, arrivals, pairs)
                    starts = dict(pairs)
                    due = [starts[number] + packet[2] for number, packet in enumerate(arrivals)]
                    self.assertTrue(same(found, tuple(due)))


class TestSent(unittest.TestCase):
    def test_some(self):
        self.assertTrue(same(sent(TWO, (), (), (3, 1)), ((0, 1), (0, 1))))
        for moment, due in (
            ((0, 1), ((0, 1), (0, 1))),
            ((1, 3), ((1, 3), (0, 1))),
            ((2, 1), ((2, 1), (0, 1))),
            ((5, 2), ((2, 1), (0, 1))),
            ((3, 1), ((2, 1), (0, 1))),
            ((7, 2), ((5, 2), (0, 1))),
            ((5, 1), ((4, 1), (0, 1))),
            ((20, 3), ((4, 1), (5, 3))),
            ((7, 1), ((4, 1), (2, 1))),
            ((10**140, 1), ((4, 1), (2, 1))),
        ):
            with self.subTest(moment):
                self.assertTrue(same(sent(TWO, SOME, SLOW, moment), due))

    def test_a_packet_of_the_flow_within_another(self):
        self.assertTrue(same(sent((1, 1, 4), SOME, SLOW, (9, 2)), ((7, 2), (0, 1), (0, 1))))

    def test_at_starts_ends_and_within_packets(self):
        tiny = Fraction(1, 10**30)
        for weights, arrivals in CASES[::2]:
            for pairs in [schedule(weights, arrivals)] + made(10, arrivals)[4:7]:
                moments = [Fraction(0), Fraction(10**140, 3)]
                for number, start in pairs:
                    length = arrivals[number][2]
                    moments += [start, start + Fraction(length, 3), start + length, start + length - tiny, start + tiny]
                for moment in sorted(set(moments)):
                    due = sent_until(weights, arrivals, pairs, moment)
                    with self.subTest(weights=weights, arrivals=arrivals, pairs=pairs, moment=moment):
                        found = unchanged(sent, weights, arrivals, pairs, pair_of(moment))
                        self.assertIs(type(found), tuple)
                        self.assertEqual([number_of(amount) for amount in found], due)


if __name__ == "__main__":
    unittest.main()
