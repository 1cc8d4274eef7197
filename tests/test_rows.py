"""Rows [9.1], what goes through them [9.2], and the bound [9.3]."""

import itertools
import math
import random
import unittest
from fractions import Fraction

from fairqueue.buckets import judge_bucket, shaped
from fairqueue.fair import schedule
from fairqueue.rows import is_row, row_bound, through
from fairqueue.waits import wait_bound, waits
from tests.support import (
    BIG,
    LINE,
    NOT_ROWS,
    ROWS,
    SOME_PACKETS,
    by_the_rule,
    number_of,
    pair_of,
    same,
    unchanged,
)

ONE, FREE = ((2, 1), ((0, 1, 2),)), ((1, 1), ())


def chance_packets(source, many):
    """Packets of the flow 0, so many at the most."""
    moment, packets = source.randint(0, 3), []
    for _ in range(source.randint(0, many)):
        packets.append((moment, source.randint(1, 6)))
        moment += source.choice((0, 0, 1, 4))
    return tuple(packets)


def chance_line(source, many):
    """A pair (weights, cross), with so many cross packets at the most."""
    weights = tuple([source.randint(1, 5) for _ in range(source.randint(1, 4))])
    moment, cross = source.randint(0, 5), []
    for _ in range(source.randint(0, many) if len(weights) > 1 else 0):
        cross.append((moment, source.randrange(1, len(weights)), source.randint(1, 6)))
        moment += source.choice((0, 0, 1, 3, 6))
    return weights, tuple(cross)


def chance_rows(seed, many):
    """Pairs of a row and packets, always the same ones for a seed."""
    source = random.Random(seed)
    cases = []
    for _ in range(many):
        row = tuple([chance_line(source, 9) for _ in range(source.randint(1, 4))])
        cases.append((row, chance_packets(source, 8)))
    return cases


MANY = chance_rows(91, 120) + [(row, packets) for row in ROWS for packets in SOME_PACKETS]


def line_by_line(row, packets):
    """What goes through the row, each line by the rule of [4.2], choice by choice."""
    found, moments = [], [moment for moment, _ in packets]
    for weights, cross in row:
        # Behind their moment: whether it is a cross packet, and the place among those of its kind.
        own = [(moment, 0, at, (moment, 0, packets[at][1])) for at, moment in enumerate(moments)]
        others = [(packet[0], 1, at, packet) for at, packet in enumerate(cross)]
        arrivals = tuple([entry[3] for entry in sorted(own + others)])
        starts = dict(by_the_rule(weights, arrivals))
        numbers = [number for number, packet in enumerate(arrivals) if packet[1] == 0]
        moments = [starts[number] + arrivals[number][2] for number in numbers]
        found.append(tuple(moments))
    return tuple(found)


def bound_by_words(row, burst, longest):
    """The row bound, by the words of [9.3]."""
    least = min([Fraction(weights[0], sum(weights)) for weights, _ in row])
    bound = burst / least + (len(row) - 1) * longest / least
    for _, cross in row:
        bound += max([longest] + [length for _, _, length in cross])
    return bound


def least_burst(packets, rate):
    """The least burst with which the packets keep a bucket of the rate."""
    found = 1
    for at, (first, _) in enumerate(packets):
        total = 0
        for moment, length in packets[at:]:
            total += length
            found = max(found, math.ceil(total - rate * (moment - first)))
    return found


class TestExamples(unittest.TestCase):
    def test_as_the_document_gives_them(self):
        found = [is_row((ONE, FREE)), is_row(((2, 1), ((0, 0, 2),))), is_row(())]
        self.assertTrue(same(found, [True, False, False]))
        packets = ((0, 2), (1, 2))
        found = [
            through((ONE,), packets),
            through((ONE, FREE), packets),
            row_bound((ONE,), 4, 2),
            row_bound((ONE, FREE), 4, 2),
        ]
        self.assertTrue(same(found, [((2, 6),), ((2, 6), (4, 8)), (8, 1), (16, 1)]))


class TestIsRow(unittest.TestCase):
    def test_rows(self):
        for row in ROWS + tuple([row for row, _ in MANY]):
            with self.subTest(row):
                self.assertIs(unchanged(is_row, row), True)

    def test_no_rows(self):
        for thing in NOT_ROWS:
            with self.subTest(thing):
                self.assertIs(unchanged(is_row, thing), False)

    def test_one_thing_otherwise(self):
        for row, _ in MANY[::3]:
            for at, (weights, cross) in enumerate(row):
                last = cross[-1][0] if cross else 0
                for line in (
                    None,
                    LINE,
                    weights,
                    (),
                    (weights,),
                    (weights, cross, cross),
                    [weights, cross],
                    (list(weights), cross),
                    (weights, list(cross)),
                    (weights + (0,), cross),
                    (weights[:-1] + (True,), cross),
                    ((), cross),
                    ((), ()),
                    (weights, None),
                    (weights, LINE),
                    (weights, cross + (LINE,)),
                    (weights, cross + ((last, 0, 1),)),
                    (weights, ((0, 0, 1),) + cross),
                    (weights, cross + ((last, False, 1),)),
                    (weights, cross + ((last, len(weights), 1),)),
                    (weights, cross + ((last, -1, 1),)),
                    (weights, cross + ((last, 1, 0),)),
                    (weights, cross + ((last, 1),)),
                    (weights, cross + ((last - 1, 1, 1),)) if len(weights) > 1 else None,
                    (cross, weights),
                ):
                    thing = row[:at] + (line,) + row[at + 1 :]
                    with self.subTest(thing):
                        self.assertIs(is_row(thing), False)
            self.assertIs(is_row(list(row)), False)
            self.assertIs(is_row((row,)), False)

    def test_a_flow_beyond_the_weights_is_right_with_more_weights(self):
        self.assertIs(is_row((((2, 1), ((0, 2, 1),)),)), False)
        self.assertIs(is_row((((2, 1, 1), ((0, 2, 1),)),)), True)
        self.assertIs(is_row((((2,), ((0, 1, 1),)),)), False)

    def test_by_name(self):
        self.assertIs(is_row(thing=(ONE,)), True)
        self.assertIs(is_row(thing=[ONE]), False)


class TestThrough(unittest.TestCase):
    def test_some(self):
        self.assertTrue(same(through((FREE,), ()), ((),)))
        self.assertTrue(same(through((FREE, ONE, FREE), ()), ((), (), ())))
        self.assertTrue(same(through((FREE,), ((3, 2), (3, 1), (9, 4))), ((5, 6, 13),)))
        self.assertTrue(same(through((FREE, FREE), ((3, 2), (3, 1), (9, 4))), ((5, 6, 13), (7, 8, 17))))
        self.assertTrue(same(through((((7,), ()),), ((0, 5),)), ((5,),)))

    def test_with_the_same_moment_those_of_the_flow_0_come_first(self):
        # The end tags are equal; were the cross packet before it, nothing would be otherwise by the flows.
        self.assertTrue(same(through((((1, 1), ((4, 1, 2),)),), ((4, 2),)), ((6,),)))
        # All packets of a moment have arrived before the choice, whatever their order is.
        self.assertTrue(same(through((((1, 9), ((4, 1, 2),)),), ((4, 2),)), ((8,),)))

    def test_on_the_further_lines_packets_arrive_at_their_ends(self):
        # The packet leaves the first line at 5; on the second one it finds a long cross packet that came at 4.
        row = (((1, 1), ((0, 1, 3),)), ((1, 1), ((4, 1, 9),)))
        self.assertTrue(same(through(row, ((1, 2),)), ((5,), (15,))))
        # Coming just with it, the cross packet would have been later.
        row = (((1, 1), ((0, 1, 3),)), ((1, 1), ((5, 1, 9),)))
        self.assertTrue(same(through(row, ((1, 2),)), ((5,), (7,))))

    def test_against_the_rule_line_by_line(self):
        for row, packets in MANY:
            with self.subTest(row=row, packets=packets):
                self.assertTrue(same(unchanged(through, row, packets), line_by_line(row, packets)))

    def test_cross_packets_at_the_moments_of_the_packets(self):
        source = random.Random(92)
        for _ in range(40):
            packets = chance_packets(source, 8)
            row = []
            moments = [moment for moment, _ in packets]
            for _ in range(3):
                cross = tuple([(moment, source.randint(1, 2), source.randint(1, 5)) for moment in moments])
                row.append(((source.randint(1, 4), 1, 2), cross))
                moments = line_by_line(tuple(row), packets)[-1]
            row = tuple(row)
            with self.subTest(row=row, packets=packets):
                self.assertTrue(same(through(row, packets), line_by_line(row, packets)))

    def test_one_line_is_the_schedule_of_the_fair_rule(self):
        for row, packets in MANY[::4]:
            weights, cross = row[0]
            own = [(moment, 0, length) for moment, length in packets]
            arrivals = tuple(sorted(own + list(cross), key=lambda packet: packet[0]))
            ends = [first + wait for (first, _, _), wait in zip(arrivals, waits(arrivals, schedule(weights, arrivals)))]
            due = [end for end, packet in zip(ends, arrivals) if packet[1] == 0]
            with self.subTest(row=row, packets=packets):
                self.assertTrue(same(through(row[:1], packets), (tuple(due),)))

    def test_rows_put_together(self):
        for (row, packets), (more, _) in zip(MANY, MANY[1:]):
            first = through(row, packets)
            coming = tuple([(end, length) for end, (_, length) in zip(first[-1], packets)])
            with self.subTest(row=row, more=more, packets=packets):
                self.assertTrue(same(through(row + more, packets), first + through(more, coming)))

    def test_no_cross_packets(self):
        # Alone on its lines the flow never waits for others, whatever the weights are.
        for weights in ((1,), (1, 12), (5, 1, 1)):
            found = through(((weights, ()),) * 3, ((0, 4), (1, 1), (20, 3)))
            self.assertTrue(same(found, ((4, 5, 23), (8, 9, 26), (12, 13, 29))))

    def test_by_name(self):
        self.assertEqual(through(packets=((0, 2), (1, 2)), row=(ONE,)), ((2, 6),))

    def test_moments_beyond_those_of_part_1(self):
        row = (((1, 1), tuple([(2000, 1, 60)] * 29)),) * 4
        self.assertTrue(same(through(row, ((2000, 60),)), line_by_line(row, ((2000, 60),))))
        self.assertTrue(same(through((FREE,), ((BIG, BIG),)), ((2 * BIG,),)))


class TestRowBound(unittest.TestCase):
    def test_some(self):
        self.assertTrue(same(row_bound((((3, 4), ()),), 1, 2), (13, 3)))
        self.assertTrue(same(row_bound((((3, 4), ((0, 1, 9),)),), 1, 2), (34, 3)))
        self.assertTrue(same(row_bound((((1,), ()),) * 3, 5, 2), (15, 1)))
        # The least share is on the second line, 1 / 4; the greatest lengths are 2, 7 and 3.
        row = (((2, 1), ()), ((1, 3), ((0, 1, 7),)), ((9, 1), ((0, 1, 3), (4, 1, 1))))
        self.assertTrue(same(row_bound(row, 5, 2), (5 * 4 + 2 * 2 * 4 + 2 + 7 + 3, 1)))

    def test_against_its_words(self):
        for row, _ in MANY:
            for burst, longest in itertools.product((1, 7, 200, 201), (1, 3, 60, 61)):
                with self.subTest(row=row, burst=burst, longest=longest):
                    found = unchanged(row_bound, row, burst, longest)
                    self.assertTrue(same(found, pair_of(bound_by_words(row, burst, longest))))

    def test_on_one_line_it_is_the_wait_bound(self):
        for weights in ((1,), (2, 1), (3, 5, 4)):
            for burst, longest in ((1, 1), (4, 2), (200, 60)):
                found = row_bound(((weights, ()),), burst, longest)
                self.assertTrue(same(found, wait_bound(weights, 0, burst, longest)))

    def held(self, row, packets, burst, longest):
        bound = bound_by_words(row, burst, longest)
        self.assertEqual(number_of(row_bound(row, burst, longest)), bound)
        for (moment, _), end in zip(packets, through(row, packets)[-1]):
            self.assertLessEqual(end - moment, bound)

    def test_packets_that_keep_a_bucket_end_within_it(self):
        for row, packets in MANY:
            rate = min([Fraction(weights[0], sum(weights)) for weights, _ in row])
            longest = max([length for _, length in packets], default=1)
            with self.subTest(row=row, packets=packets):
                self.held(row, packets, least_burst(packets, rate), longest)
                self.held(row, packets, least_burst(packets, rate / 2), longest)

    def test_packets_that_were_shaped_first(self):
        source = random.Random(93)
        for row, packets in MANY[::2]:
            rate = min([Fraction(weights[0], sum(weights)) for weights, _ in row])
            longest = max([length for _, length in packets], default=1)
            bucket = (longest + source.randint(0, 2), pair_of(rate))
            own = shaped(tuple([(moment, 0, length) for moment, length in packets]), 0, bucket)
            self.assertEqual(judge_bucket(own, 0, bucket), ("kept",))
            with self.subTest(row=row, packets=packets, bucket=bucket):
                self.held(row, tuple([(moment, length) for moment, _, length in own]), bucket[0], longest)

    def test_whatever_the_cross_packets_are(self):
        # As many long cross packets as there may be, at once or just when the packets come to the line.
        packets = tuple([(6 * at, 2) for at in range(5)])
        for lengths in ((60,), (1,), (60, 1), (7, 30, 2)):
            for moments in ((0,), (0, 6), (30, 60, 90)):
                cross = sorted([(moments[at % len(moments)], 1, lengths[at % len(lengths)]) for at in range(25)])
                row = (((1, 2), tuple(cross)),) * 4
                with self.subTest(row=row):
                    self.held(row, packets, 2, 2)

    def test_by_name(self):
        self.assertEqual(row_bound(longest=2, burst=4, row=(ONE, FREE)), (16, 1))


if __name__ == "__main__":
    unittest.main()
