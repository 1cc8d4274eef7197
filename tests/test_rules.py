"""Rules [11.1], and how far they are from fair [11.2]."""

import unittest
from fractions import Fraction

from fairqueue.close import extremes, is_close, lateness
from fairqueue.errors import BadArrivals, BadRule, BadWeights
from fairqueue.fair import schedule
from fairqueue.flows import is_arrivals, is_weights
from fairqueue.ideal import busy
from fairqueue.live import Line
from fairqueue.rules import made_ahead, made_behind, schedule_by
from fairqueue.schedules import is_busy, is_schedule
from tests.support import (
    CASES,
    LINE,
    NOT_ARRIVALS,
    NOT_RULES,
    NOT_WEIGHTS,
    RULES,
    SOME,
    TWO,
    Distance,
    Reckoning,
    caught,
    chance_cases,
    number_of,
    same,
    unchanged,
)

MANY = CASES + chance_cases(111, 150, flows=4, packets=12)


def chosen(rule, weights, tags, value, waiting, last):
    """The number of the packet that the rule chooses of the waiting ones, a list of pairs (number, flow)."""
    if rule == "first":
        return min(waiting)[0]
    if rule == "turns":
        flows = list(range(len(weights)))
        order = flows if last is None else flows[last + 1 :] + flows[: last + 1]
        return [number for flow in order for number, owner in waiting if owner == flow][0]
    ready = [pair for pair in waiting if rule == "ends" or tags[pair[0]][0] <= value]
    return sorted(ready, key=lambda pair: (tags[pair[0]][1], pair[1], pair[0]))[0][0]


def by_words(rule, weights, arrivals):
    """The schedule of the rule, choice by choice, by the words of [11.1] and the clock of the reckoning."""
    reckoning = Reckoning(weights, arrivals)
    tags = reckoning.tags(arrivals)
    pairs, free, last = [], 0, None
    while len(pairs) < len(arrivals):
        left = [number for number in range(len(arrivals)) if number not in dict(pairs)]
        start = max(free, min([arrivals[number][0] for number in left]))
        waiting = [(number, arrivals[number][1]) for number in left if arrivals[number][0] <= start]
        number = chosen(rule, weights, tags, reckoning.at(start)[0], waiting, last)
        pairs.append((number, start))
        free, last = start + arrivals[number][2], arrivals[number][1]
    return tuple(pairs)


def sending(arrivals, pairs):
    """The stretches in which the pairs (number, start) send without a pause."""
    stretches = []
    for number, start in pairs:
        end = start + arrivals[number][2]
        if stretches and stretches[-1][1] == start:
            start = stretches.pop()[0]
        stretches.append((start, end))
    return tuple(stretches)


def numbers_of(pairs):
    """The numbers of the pairs (number, start), in their order."""
    return [number for number, _ in pairs]


class TestExamples(unittest.TestCase):
    def test_as_the_document_gives_them(self):
        weights = (2, 1, 1)
        arrivals = ((0, 0, 1), (0, 0, 1), (0, 0, 1), (0, 1, 1), (0, 2, 1))
        due = {
            "fair": ((0, 0), (3, 1), (1, 2), (4, 3), (2, 4)),
            "ends": ((0, 0), (1, 1), (3, 2), (4, 3), (2, 4)),
            "first": ((0, 0), (1, 1), (2, 2), (3, 3), (4, 4)),
            "turns": ((0, 0), (3, 1), (4, 2), (1, 3), (2, 4)),
        }
        for rule, pairs in due.items():
            with self.subTest(rule):
                self.assertTrue(same(schedule_by(rule, weights, arrivals), pairs))


class TestScheduleBy(unittest.TestCase):
    def test_no_packets_and_one(self):
        for rule in RULES:
            self.assertTrue(same(schedule_by(rule, TWO, ()), ()))
            self.assertTrue(same(schedule_by(rule, TWO, ((4, 1, 3),)), ((0, 4),)))

    def test_choice_by_choice(self):
        for rule in RULES:
            for weights, arrivals in MANY:
                with self.subTest(rule=rule, weights=weights, arrivals=arrivals):
                    found = unchanged(schedule_by, rule, weights, arrivals)
                    self.assertTrue(same(found, by_words(rule, weights, arrivals)))

    def test_fair_is_the_fair_rule(self):
        for weights, arrivals in MANY:
            with self.subTest(weights=weights, arrivals=arrivals):
                self.assertTrue(same(schedule_by("fair", weights, arrivals), schedule(weights, arrivals)))

    def test_all_are_busy_and_in_the_same_stretches(self):
        for weights, arrivals in MANY:
            for rule in RULES:
                pairs = schedule_by(rule, weights, arrivals)
                with self.subTest(rule=rule, weights=weights, arrivals=arrivals):
                    self.assertIs(is_schedule(weights, arrivals, pairs), True)
                    self.assertIs(is_busy(weights, arrivals, pairs), True)
                    self.assertTrue(same(sending(arrivals, pairs), busy(weights, arrivals)))

    def test_ends_takes_packets_that_are_not_eligible(self):
        arrivals = ((0, 0, 1), (0, 0, 1), (0, 1, 1))
        self.assertEqual(numbers_of(schedule_by("ends", (4, 1), arrivals)), [0, 1, 2])
        self.assertEqual(numbers_of(schedule_by("fair", (4, 1), arrivals)), [0, 2, 1])

    def test_ends_with_the_same_end_tags(self):
        arrivals = ((0, 2, 2), (0, 1, 2), (0, 0, 2))
        self.assertEqual(numbers_of(schedule_by("ends", (1, 1, 1), arrivals)), [2, 1, 0])
        # The second packet of the flow 1 has the end tag of the only one of the flow 0.
        arrivals = ((0, 1, 1), (0, 1, 1), (0, 0, 2))
        self.assertEqual(numbers_of(schedule_by("ends", (1, 1), arrivals)), [0, 2, 1])

    def test_ends_is_never_late_by_more_than_the_longest_length(self):
        for weights, arrivals in MANY + chance_cases(112, 150, flows=3, packets=14):
            most = max([length for _, _, length in arrivals], default=0)
            late = lateness(weights, arrivals, schedule_by("ends", weights, arrivals))
            with self.subTest(weights=weights, arrivals=arrivals):
                self.assertTrue(all([number_of(each) <= most for each in late]))

    def test_first_goes_by_the_numbers_alone(self):
        for weights, arrivals in MANY:
            with self.subTest(weights=weights, arrivals=arrivals):
                found = schedule_by("first", weights, arrivals)
                self.assertEqual(numbers_of(found), list(range(len(arrivals))))
                self.assertEqual(schedule_by("first", (1,) * len(weights), arrivals), found)

    def test_turns(self):
        weights = (1, 1, 1)
        # The flow 0 is asked first, whoever came first.
        self.assertEqual(numbers_of(schedule_by("turns", weights, ((0, 2, 1), (0, 1, 1), (0, 0, 1)))), [2, 1, 0])
        # A flow without a waiting packet is passed over.
        arrivals = ((0, 0, 1), (0, 0, 1), (0, 2, 1), (0, 2, 1))
        self.assertEqual(numbers_of(schedule_by("turns", weights, arrivals)), [0, 2, 1, 3])
        # A flow that is alone is served again and again.
        self.assertEqual(numbers_of(schedule_by("turns", weights, ((0, 1, 1),) * 3)), [0, 1, 2])

    def test_turns_ask_the_flow_that_was_served_last_as_the_last_one(self):
        # The flow 1 is served; when the line is free the flows 0, 1 and 2 wait: next is 2, then 0, then 1.
        arrivals = ((0, 1, 5), (1, 0, 1), (1, 1, 1), (1, 2, 1))
        self.assertEqual(numbers_of(schedule_by("turns", (1, 1, 1), arrivals)), [0, 3, 1, 2])

    def test_pauses_change_nothing_in_the_turns(self):
        # The flow 1 is served, the line pauses, and the flow 2 comes before the flow 0, which comes before 1.
        arrivals = ((0, 1, 1), (9, 0, 1), (9, 1, 1), (9, 2, 1))
        self.assertEqual(numbers_of(schedule_by("turns", (1, 1, 1), arrivals)), [0, 3, 1, 2])
        self.assertEqual(numbers_of(schedule_by("turns", (1, 1, 1), arrivals[1:])), [0, 1, 2])

    def test_weights_change_nothing_in_the_turns(self):
        for weights, arrivals in MANY[::2]:
            with self.subTest(weights=weights, arrivals=arrivals):
                found = schedule_by("turns", weights, arrivals)
                self.assertEqual(schedule_by("turns", weights[::-1], arrivals), found)

    def test_by_name(self):
        self.assertEqual(schedule_by(arrivals=SOME, weights=TWO, rule="first"), ((0, 0), (1, 2), (2, 4)))


class TestErrors(unittest.TestCase):
    def raised(self, error, thing, *values, **named):
        with self.subTest(thing):
            found = caught(schedule_by, *values, **named)
            self.assertIs(type(found), error)
            self.assertIs(found.thing, thing)

    def test_no_rules(self):
        for thing in NOT_RULES:
            self.raised(BadRule, thing, thing, TWO, SOME)
            self.raised(BadRule, thing, rule=thing, weights=TWO, arrivals=())

    def test_values_that_have_no_hash(self):
        for thing in ([], ["fair"], {}, {"fair": 1}, ([],), ("fair", []), [LINE], {LINE: []}, Line((1,)), {"ends": LINE}):
            self.raised(BadRule, thing, thing, TWO, SOME)

    def test_the_rule_comes_first(self):
        for rule in ("fare", None, [1], LINE):
            for weights in ([2, 1], None, (2, 0)):
                self.raised(BadRule, rule, rule, weights, None)
                self.raised(BadRule, rule, arrivals=[], weights=weights, rule=rule)

    def test_weights_and_arrivals(self):
        for rule in RULES:
            for thing in NOT_WEIGHTS:
                self.raised(BadWeights, thing, rule, thing, SOME)
                self.raised(BadWeights, thing, rule, thing, None)
            for thing in NOT_ARRIVALS:
                self.raised(BadArrivals, thing, rule, TWO, thing)


class TestMade(unittest.TestCase):
    def pair(self, made, n):
        found = unchanged(made, n)
        self.assertEqual([type(found), len(found)], [tuple, 2])
        weights, arrivals = found
        self.assertIs(is_weights(weights), True)
        self.assertIs(is_arrivals(weights, arrivals), True)
        self.assertEqual({length for _, _, length in arrivals}, {1})
        return weights, arrivals

    def is_within_limits(self, weights, arrivals):
        return (
            len(weights) <= 8
            and max(weights) <= 12
            and len(arrivals) <= 30
            and all([moment <= 2000 for moment, _, _ in arrivals])
        )

    def ahead(self, n):
        weights, arrivals = self.pair(made_ahead, n)
        pairs = schedule_by("ends", weights, arrivals)
        with self.subTest(n=n, weights=weights, arrivals=arrivals):
            due = Fraction(n - 1, 2)
            self.assertGreaterEqual(max([number_of(ahead) for _, ahead in extremes(weights, arrivals, pairs)]), due)
            self.assertGreaterEqual(max([ahead for _, ahead in Distance(weights, arrivals, pairs).extremes()]), due)
            self.assertEqual(is_close(weights, arrivals, pairs), n < 2)
        return weights, arrivals

    def behind(self, n):
        weights, arrivals = self.pair(made_behind, n)
        pairs = schedule_by("first", weights, arrivals)
        with self.subTest(n=n, weights=weights, arrivals=arrivals):
            self.assertGreaterEqual(max([number_of(behind) for behind, _ in extremes(weights, arrivals, pairs)]), n)
            self.assertGreaterEqual(max([behind for behind, _ in Distance(weights, arrivals, pairs).extremes()]), n)
        return weights, arrivals

    def test_made_ahead(self):
        for n in range(1, 6):
            self.assertIs(self.is_within_limits(*self.ahead(n)), True)

    def test_made_behind(self):
        for n in range(1, 8):
            self.assertIs(self.is_within_limits(*self.behind(n)), True)

    def test_somewhat_beyond_the_limits(self):
        for n in (8, 12, 15):
            self.ahead(n)
            self.behind(n)

    def test_by_the_fair_rule_they_are_as_close_as_all(self):
        for weights, arrivals in [made_ahead(n) for n in range(1, 6)] + [made_behind(n) for n in range(1, 8)]:
            self.assertIs(is_close(weights, arrivals, schedule(weights, arrivals)), True)


if __name__ == "__main__":
    unittest.main()
