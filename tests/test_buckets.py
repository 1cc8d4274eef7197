"""Buckets [7.1] and shaping [7.2]."""

import itertools
import random
import unittest
from fractions import Fraction

from fairqueue.buckets import bucket_holds, is_bucket, judge_bucket, shaped
from fairqueue.errors import BadBucket
from fairqueue.flows import is_arrivals
from tests.support import (
    BIG,
    CASES,
    NO_CERTIFICATES,
    NOT_BUCKETS,
    SOME,
    caught,
    chance_cases,
    same,
    unchanged,
)

BUCKETS = (
    (1, (1, 1)),
    (1, (1, 100)),
    (2, (1, 2)),
    (3, (2, 3)),
    (4, (1, 2)),
    (6, (1, 7)),
    (6, (5, 3)),
    (20, (1, 10)),
    (60, (99, 100)),
    (200, (100, 1)),
    (BIG, (1, BIG)),
)
# All packets of these are somewhere among the flows 0 to 3, and no longer than 6.
MANY = [arrivals for _, arrivals in CASES + chance_cases(1994, 60, flows=3, packets=12)]


def totals(arrivals, flow):
    """The tuple (i, j, total from i to j, time from i to j) for all pairs of packets of the flow."""
    own = [number for number, packet in enumerate(arrivals) if packet[1] == flow]
    found = []
    for at, first in enumerate(own):
        for to in range(at, len(own)):
            total = sum([arrivals[number][2] for number in own[at : to + 1]])
            found.append((first, own[to], total, arrivals[own[to]][0] - arrivals[first][0]))
    return found


def breaking(arrivals, flow, bucket):
    """The pairs of packets for which the flow does not keep the bucket."""
    burst, rate = bucket[0], Fraction(*bucket[1])
    return [(first, last) for first, last, total, time in totals(arrivals, flow) if total > burst + rate * time]


def shaped_one_by_one(arrivals, flow, bucket):
    """The shaped arrivals, each least moment found by trying all integers from the first possible one on."""
    moments = [packet[0] for packet in arrivals]
    before = []
    for number, (moment, owner, length) in enumerate(arrivals):
        if owner != flow:
            continue
        tried = max([moment] + [other for other, _, _ in before])
        while breaking(tuple(before) + ((tried, flow, length),), flow, bucket):
            tried += 1
        before.append((tried, flow, length))
        moments[number] = tried
    order = sorted(range(len(arrivals)), key=lambda number: (moments[number], number))
    return tuple([(moments[number],) + arrivals[number][1:] for number in order])


class TestExamples(unittest.TestCase):
    def test_as_the_document_gives_them(self):
        found = [
            is_bucket((3, (1, 2))),
            judge_bucket(SOME, 0, (4, (1, 2))),
            judge_bucket(SOME, 0, (3, (1, 2))),
            bucket_holds(SOME, 0, (3, (1, 2)), ("breaks", 0, 0)),
            shaped(SOME, 0, (3, (1, 2))),
        ]
        due = [True, ("kept",), ("breaks", 0, 2), False, ((0, 0, 2), (0, 1, 2), (2, 0, 2))]
        self.assertTrue(same(found, due))


class TestIsBucket(unittest.TestCase):
    def test_buckets(self):
        for thing in BUCKETS:
            with self.subTest(thing):
                self.assertIs(unchanged(is_bucket, thing), True)

    def test_no_buckets(self):
        for thing in NOT_BUCKETS:
            with self.subTest(thing):
                self.assertIs(unchanged(is_bucket, thing), False)

    def test_one_thing_otherwise(self):
        for burst, (top, bottom) in BUCKETS:
            for thing in (
                (0, (top, bottom)),
                (-burst, (top, bottom)),
                (str(burst), (top, bottom)),
                ((burst,), (top, bottom)),
                (True, (top, bottom)),
                (burst, top, bottom),
                (burst, (0, 1)),
                (burst, (-top, bottom)),
                (burst, (top, -bottom)),
                (burst, (-top, -bottom)),
                (burst, (2 * top, 2 * bottom)),
                (burst, (top, 0)),
                (burst, (top, bottom, 1)),
                (burst, (top,)),
                (burst, [top, bottom]),
                (burst, top),
                (burst, (True, bottom)),
                (burst, (top, True)),
                ((top, bottom), burst),
                [burst, (top, bottom)],
                (burst, (top, bottom), 0),
                (burst,),
            ):
                with self.subTest(thing):
                    self.assertIs(is_bucket(thing), False)

    def test_by_name(self):
        self.assertIs(is_bucket(thing=(3, (1, 2))), True)
        self.assertIs(is_bucket(thing=[3, (1, 2)]), False)


class TestJudgeBucket(unittest.TestCase):
    def test_some(self):
        self.assertTrue(same(judge_bucket((), 0, (1, (1, 1))), ("kept",)))
        self.assertTrue(same(judge_bucket(((5, 3, 2),), 3, (2, (1, 9))), ("kept",)))
        self.assertTrue(same(judge_bucket(((5, 3, 2),), 3, (1, (9, 1))), ("breaks", 0, 0)))
        self.assertTrue(same(judge_bucket(((0, 1, 5), (5, 3, 2)), 3, (1, (9, 1))), ("breaks", 1, 1)))

    def test_a_flow_without_packets(self):
        for flow in (2, 7, 8, 1000, BIG):
            self.assertTrue(same(judge_bucket(SOME, flow, (1, (1, 100))), ("kept",)))
            self.assertIs(bucket_holds(SOME, flow, (1, (1, 100)), ("kept",)), True)
            self.assertIs(bucket_holds(SOME, flow, (1, (1, 100)), ("breaks", 0, 0)), False)

    def test_a_sum_that_is_just_burst_plus_rate_times_the_time(self):
        tried = 0
        for burst, rate, time in itertools.product((4, 9, 30), ((1, 3), (1, 1), (2, 1), (7, 2)), range(1, 7)):
            second = rate[0] * time // rate[1]
            if rate[0] * time % rate[1] or not 1 <= second < burst:
                continue
            tried += 1
            for more, due in ((0, ("kept",)), (1, ("breaks", 0, 2))):
                arrivals = ((2, 5, burst), (2, 0, 60), (2 + time, 5, second + more))
                with self.subTest(arrivals=arrivals, burst=burst, rate=rate):
                    self.assertTrue(same(judge_bucket(arrivals, 5, (burst, rate)), due))
        self.assertGreater(tried, 20)

    def test_just_kept_and_just_not(self):
        # 2 + 3 is just 4 + 1 / 3 * 3.
        arrivals = ((1, 0, 2), (4, 0, 3))
        self.assertTrue(same(judge_bucket(arrivals, 0, (4, (1, 3))), ("kept",)))
        self.assertTrue(same(judge_bucket(arrivals, 0, (4, (33, 100))), ("breaks", 0, 1)))
        self.assertTrue(same(judge_bucket(((2, 0, 2), (4, 0, 3)), 0, (4, (1, 3))), ("breaks", 0, 1)))
        self.assertTrue(same(judge_bucket(((1, 0, 2), (4, 0, 4)), 0, (4, (1, 3))), ("breaks", 0, 1)))
        self.assertTrue(same(judge_bucket(((1, 0, 2), (4, 0, 3), (4, 0, 1)), 0, (4, (1, 3)))[:2], ("breaks", 0)))

    def test_a_break_that_no_neighbours_show(self):
        # Each two neighbours keep it, all three do not.
        arrivals = ((0, 0, 2), (1, 0, 2), (2, 0, 2))
        self.assertTrue(same(judge_bucket(arrivals, 0, (3, (1, 1))), ("breaks", 0, 2)))
        self.assertTrue(same(judge_bucket(arrivals[:2], 0, (3, (1, 1))), ("kept",)))
        self.assertTrue(same(judge_bucket(arrivals[1:], 0, (3, (1, 1))), ("kept",)))

    def test_against_all_pairs_of_packets(self):
        kinds = {"kept": 0, "breaks": 0}
        for arrivals in MANY:
            for flow, bucket in itertools.product((0, 1, 2, 9), BUCKETS[::2]):
                due = breaking(arrivals, flow, bucket)
                with self.subTest(arrivals=arrivals, flow=flow, bucket=bucket):
                    found = unchanged(judge_bucket, arrivals, flow, bucket)
                    kinds[found[0]] += 1
                    self.assertIs(type(found), tuple)
                    if due:
                        self.assertEqual(found[0], "breaks")
                        self.assertIn(found[1:], due)
                    else:
                        self.assertTrue(same(found, ("kept",)))
                    self.assertIs(bucket_holds(arrivals, flow, bucket, found), True)
        self.assertGreater(min(kinds.values()), 100)


class TestBucketHolds(unittest.TestCase):
    def test_all_pairs_of_numbers(self):
        answers = {True: 0, False: 0}
        for arrivals in MANY[::2]:
            numbers = range(-1, min(len(arrivals), 12) + 1)
            for flow, bucket in itertools.product((0, 1), BUCKETS[1:6:2]):
                due = breaking(arrivals, flow, bucket)
                for first, last in itertools.product(numbers, numbers):
                    answers[(first, last) in due] += 1
                    with self.subTest(arrivals=arrivals, flow=flow, bucket=bucket, first=first, last=last):
                        found = bucket_holds(arrivals, flow, bucket, ("breaks", first, last))
                        self.assertIs(found, (first, last) in due)
                self.assertIs(bucket_holds(arrivals, flow, bucket, ("kept",)), not due)
        self.assertGreater(min(answers.values()), 100)

    def test_no_certificates(self):
        for bucket in ((3, (1, 2)), (4, (1, 2))):
            for thing in NO_CERTIFICATES + (("close",), ("in",), ("breaks", 0), ("breaks", 0, 2, 2), bucket):
                with self.subTest(thing):
                    self.assertIs(unchanged(bucket_holds, SOME, 0, bucket, thing), False)

    def test_numbers_that_are_none(self):
        # The packets 0, 1, 3 and 4 are of the flow 0; 0 to 1 breaks it, as do 0 to 4 and 3 to 4, and 4 alone.
        arrivals = ((0, 0, 2), (0, 0, 2), (1, 1, 9), (50, 0, 2), (50, 0, 5))
        bucket = (3, (1, 10))
        right = [(0, 1), (3, 4), (4, 4)]
        for numbers in right:
            self.assertIs(bucket_holds(arrivals, 0, bucket, ("breaks",) + numbers), True)
        for numbers in (
            (1, 0),
            (4, 3),
            (0, 0),
            (3, 3),
            (0, 3),
            (1, 3),
            (2, 2),
            (2, 4),
            (0, 2),
            (3, 5),
            (5, 5),
            (-1, -1),
            (-2, -1),
            (3, -1),
            (-2, 4),
            (-5, 1),
            (False, 1),
            (0, True),
            (False, True),
            (0, BIG),
            (-BIG, 1),
            (None, 1),
            (0, None),
            ("0", 1),
            (0, "1"),
            ((0,), 1),
            (0, (1,)),
            ([0], 1),
            (0, {1: 1}),
            (0, (1, 1)),
        ):
            with self.subTest(numbers):
                self.assertIs(unchanged(bucket_holds, arrivals, 0, bucket, ("breaks",) + numbers), False)
        for thing in (
            ["breaks", 0, 1],
            ("breaks", (0, 1)),
            ("breaks", 0, 1, 1),
            ("kept", 0, 1),
            ("kept",),
            (0, 1),
            (0, "breaks", 1),
            ("Breaks", 0, 1),
        ):
            with self.subTest(thing):
                self.assertIs(unchanged(bucket_holds, arrivals, 0, bucket, thing), False)

    def test_one_packet_longer_than_burst(self):
        self.assertIs(bucket_holds(((0, 2, 4),), 2, (3, (100, 1)), ("breaks", 0, 0)), True)
        self.assertIs(bucket_holds(((0, 2, 3),), 2, (3, (1, 100)), ("breaks", 0, 0)), False)
        self.assertIs(bucket_holds(((0, 2, 4),), 1, (3, (100, 1)), ("breaks", 0, 0)), False)


class TestShaped(unittest.TestCase):
    def test_some(self):
        self.assertTrue(same(shaped((), 0, (1, (1, 1))), ()))
        self.assertTrue(same(shaped(((4, 1, 3),), 1, (3, (1, 100))), ((4, 1, 3),)))
        three = ((0, 0, 2), (0, 0, 2), (0, 0, 2))
        self.assertTrue(same(shaped(three, 0, (2, (1, 1))), ((0, 0, 2), (2, 0, 2), (4, 0, 2))))
        self.assertTrue(same(shaped(three, 0, (2, (3, 2))), ((0, 0, 2), (2, 0, 2), (4, 0, 2))))
        self.assertTrue(same(shaped(three, 0, (4, (1, 100))), ((0, 0, 2), (0, 0, 2), (200, 0, 2))))
        self.assertTrue(same(shaped(three, 0, (6, (1, 100))), three))
        self.assertTrue(same(shaped(three, 0, (5, (100, 1))), ((0, 0, 2), (0, 0, 2), (1, 0, 2))))

    def test_a_flow_without_packets(self):
        for flow in (2, 3, BIG):
            self.assertTrue(same(shaped(SOME, flow, (1, (1, 100))), SOME))

    def test_others_stay_and_those_of_a_moment_stay_in_the_order_of_the_arrivals(self):
        arrivals = ((0, 1, 2), (0, 0, 9), (0, 1, 2), (2, 0, 8), (2, 2, 7), (2, 1, 1), (3, 0, 6))
        found = shaped(arrivals, 1, (2, (1, 1)))
        due = ((0, 1, 2), (0, 0, 9), (2, 1, 2), (2, 0, 8), (2, 2, 7), (3, 1, 1), (3, 0, 6))
        self.assertTrue(same(found, due))
        # Of two flows with the same moments and lengths it is the right one that is put off.
        both = ((0, 0, 2), (0, 1, 2), (0, 0, 2), (0, 1, 2))
        self.assertTrue(same(shaped(both, 0, (2, (1, 1))), ((0, 0, 2), (0, 1, 2), (0, 1, 2), (2, 0, 2))))
        self.assertTrue(same(shaped(both, 1, (2, (1, 1))), ((0, 0, 2), (0, 1, 2), (0, 0, 2), (2, 1, 2))))

    def test_a_packet_is_not_put_before_the_one_before_it(self):
        # The short packet alone would fit at 1, but the long one before it is put off to 10.
        arrivals = ((0, 0, 10), (1, 0, 9), (1, 0, 1), (2, 1, 5))
        found = shaped(arrivals, 0, (10, (1, 1)))
        self.assertTrue(same(found, ((0, 0, 10), (2, 1, 5), (9, 0, 9), (10, 0, 1))))
        found = shaped(((0, 0, 10), (1, 0, 5), (1, 0, 1)), 0, (11, (1, 2)))
        self.assertTrue(same(found, ((0, 0, 10), (8, 0, 5), (10, 0, 1))))

    def test_against_the_least_moments_found_one_by_one(self):
        source = random.Random(72)
        for arrivals in MANY:
            for flow in (0, 1):
                longest = max([length for _, owner, length in arrivals if owner == flow], default=1)
                for _ in range(3):
                    rate = Fraction(source.randint(1, 9), source.randint(1, 6))
                    bucket = (longest + source.choice((0, 1, 5)), (rate.numerator, rate.denominator))
                    with self.subTest(arrivals=arrivals, flow=flow, bucket=bucket):
                        found = unchanged(shaped, arrivals, flow, bucket)
                        self.assertTrue(same(found, shaped_one_by_one(arrivals, flow, bucket)))
                        self.assertTrue(same(judge_bucket(found, flow, bucket), ("kept",)))
                        self.assertIs(is_arrivals((1,) * 10, found), True)
                        self.assertTrue(same(shaped(found, flow, bucket), found))

    def test_arrivals_that_keep_it_stay_as_they_are(self):
        kept = 0
        for arrivals in MANY:
            for flow, bucket in itertools.product((0, 1, 2), BUCKETS):
                if judge_bucket(arrivals, flow, bucket) == ("kept",):
                    kept += 1
                    with self.subTest(arrivals=arrivals, flow=flow, bucket=bucket):
                        self.assertTrue(same(shaped(arrivals, flow, bucket), arrivals))
        self.assertGreater(kept, 300)

    def test_a_packet_longer_than_burst(self):
        for arrivals in (((0, 0, 4),), ((0, 0, 1), (9, 0, 4)), ((0, 0, 4), (0, 1, 1), (9, 0, 1))):
            bucket = (3, (100, 1))
            error = caught(shaped, arrivals, 0, bucket)
            self.assertIs(type(error), BadBucket)
            self.assertIs(error.thing, bucket)
            error = caught(shaped, bucket=bucket, flow=0, arrivals=arrivals)
            self.assertIs(error.thing, bucket)
            # It is no packet of the other flow, and no such bucket matters elsewhere.
            self.assertTrue(same(shaped(arrivals, 1, bucket), arrivals))
            self.assertEqual(judge_bucket(arrivals, 0, bucket)[0], "breaks")
            self.assertEqual(shaped(arrivals, 0, (4, (100, 1))), arrivals)

    def test_moments_beyond_those_of_part_1(self):
        arrivals = ((0, 0, 60),) * 30
        found = shaped(arrivals, 0, (60, (1, 100)))
        self.assertTrue(same(found, tuple([(6000 * at, 0, 60) for at in range(30)])))
        self.assertTrue(same(judge_bucket(found, 0, (60, (1, 100))), ("kept",)))
        self.assertEqual(judge_bucket(found, 0, (60, (1, 99))), ("kept",))
        self.assertEqual(shaped(found, 0, (60, (1, 100))), found)


if __name__ == "__main__":
    unittest.main()
