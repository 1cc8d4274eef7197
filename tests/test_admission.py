"""Calls [10.1] and taking calls in [10.2]."""

import itertools
import random
import unittest
from fractions import Fraction

from fairqueue.admission import admitted, are_calls, calls_holds, judge_calls, promises
from fairqueue.waits import wait_bound
from tests.support import BIG, LINE, NO_CERTIFICATES, NOT_CALLS, number_of, pair_of, same, unchanged

CALLS, MORE = ((2, 4, 8), (1, 1, 5)), ((2, 4, 8), (1, 1, 5), (1, 1, 6))


def chance_calls(seed, many):
    """Pairs of calls and longest, always the same ones for a seed; about half of the wishes are near the promises."""
    source = random.Random(seed)
    cases = []
    for _ in range(many):
        shares = [(source.randint(1, 40), source.randint(1, 40)) for _ in range(source.randint(0, 12))]
        longest = source.randint(1, 60)
        whole, calls = sum([weight for weight, _ in shares]), []
        for weight, burst in shares:
            near = burst * whole // weight + longest + source.choice((0, 0, 0, 1, 1, 5, -1))
            calls.append((weight, burst, max(1, source.choice((near, near, 10000, source.randint(1, 2000))))))
        cases.append((tuple(calls), longest))
    return cases


MANY = chance_calls(101, 300) + [((), 1), ((), 60), (CALLS, 2), (MORE, 2), (CALLS, 3), (((40, 40, 10000),) * 12, 60)]


def by_words(calls, longest):
    """The promises of the calls, by the words of [10.1]."""
    whole = sum([weight for weight, _, _ in calls])
    return [Fraction(burst * whole, weight) + longest for weight, burst, _ in calls]


def out_by_words(calls, longest):
    """The positions of the calls whose promise is above their wish."""
    pairs = enumerate(zip(by_words(calls, longest), calls))
    return [at for at, (promise, (_, _, wish)) in pairs if promise > wish]


def admitted_by_words(calls, longest):
    """The positions of the admitted calls, each one considered with all that were admitted before it."""
    found = []
    for at in range(len(calls)):
        together = [calls[each] for each in found] + [calls[at]]
        if not out_by_words(together, longest):
            found.append(at)
    return tuple(found)


class TestExamples(unittest.TestCase):
    def test_as_the_document_gives_them(self):
        found = [
            are_calls(((2, 4),)),
            promises(CALLS, 2),
            judge_calls(CALLS, 2),
            promises(MORE, 2),
            admitted(MORE, 2),
        ]
        due = [False, ((8, 1), (5, 1)), ("in",), ((10, 1), (6, 1), (6, 1)), (0, 1)]
        self.assertTrue(same(found, due))
        found = [calls_holds(MORE, 2, ("out", 1)), calls_holds(MORE, 2, ("out", 2)), calls_holds(MORE, 2, ("in",))]
        self.assertTrue(same(found, [True, False, False]))


class TestAreCalls(unittest.TestCase):
    def test_calls(self):
        for calls, _ in MANY:
            with self.subTest(calls):
                self.assertIs(unchanged(are_calls, calls), True)
        self.assertIs(are_calls(((BIG, BIG, BIG),) * 13), True)
        self.assertIs(are_calls(()), True)

    def test_no_calls(self):
        for thing in NOT_CALLS:
            with self.subTest(thing):
                self.assertIs(unchanged(are_calls, thing), False)

    def test_one_thing_otherwise(self):
        for calls, _ in MANY[::10]:
            for at, (weight, burst, wish) in enumerate(calls):
                for call in (
                    (weight, burst),
                    (weight, burst, wish, 1),
                    [weight, burst, wish],
                    (0, burst, wish),
                    (weight, 0, wish),
                    (weight, burst, 0),
                    (weight, burst, -wish),
                    (True, burst, wish),
                    (weight, True, wish),
                    (weight, burst, True),
                    (weight, burst, (wish, 1)),
                    (str(weight), burst, wish),
                    (weight, burst, LINE),
                    LINE,
                    None,
                ):
                    with self.subTest(calls=calls, at=at, call=call):
                        self.assertIs(are_calls(calls[:at] + (call,) + calls[at + 1 :]), False)

    def test_by_name(self):
        self.assertIs(are_calls(thing=CALLS), True)
        self.assertIs(are_calls(thing=list(CALLS)), False)


class TestPromises(unittest.TestCase):
    def test_some(self):
        self.assertTrue(same(promises((), 7), ()))
        self.assertTrue(same(promises(((9, 4, 1),), 7), ((11, 1),)))
        self.assertTrue(same(promises(((3, 1, 1), (4, 1, 1)), 2), ((13, 3), (15, 4))))

    def test_by_the_words_of_the_document(self):
        for calls, longest in MANY:
            with self.subTest(calls=calls, longest=longest):
                found = unchanged(promises, calls, longest)
                self.assertIs(type(found), tuple)
                self.assertEqual([number_of(promise) for promise in found], by_words(calls, longest))

    def test_they_are_the_wait_bounds_of_the_flows(self):
        for calls, longest in MANY[::5]:
            weights = tuple([weight for weight, _, _ in calls])
            for flow, promise in enumerate(promises(calls, longest)):
                self.assertEqual(promise, wait_bound(weights, flow, calls[flow][1], longest))

    def test_wishes_change_nothing(self):
        self.assertEqual(promises(((2, 4, 1), (1, 1, 10000)), 2), promises(CALLS, 2))


class TestJudgeCalls(unittest.TestCase):
    def test_promises_that_are_just_the_wish(self):
        self.assertTrue(same(judge_calls(((9, 4, 11),), 7), ("in",)))
        self.assertTrue(same(judge_calls(((9, 4, 10),), 7), ("out", 0)))
        self.assertTrue(same(judge_calls(((3, 1, 5), (4, 1, 4)), 2), ("in",)))
        # 13 / 3 is above 4, and 15 / 4 above 3.
        self.assertTrue(same(judge_calls(((3, 1, 4), (4, 1, 4)), 2), ("out", 0)))
        self.assertTrue(same(judge_calls(((3, 1, 5), (4, 1, 3)), 2), ("out", 1)))

    def test_no_calls(self):
        for longest in (1, 60):
            self.assertTrue(same(judge_calls((), longest), ("in",)))
            self.assertIs(calls_holds((), longest, ("in",)), True)
            for thing in (("out", 0), ("out", -1), ("out", 1), ("out",), ()):
                self.assertIs(calls_holds((), longest, thing), False)

    def test_against_the_words(self):
        words = {"in": 0, "out": 0}
        for calls, longest in MANY:
            with self.subTest(calls=calls, longest=longest):
                found = unchanged(judge_calls, calls, longest)
                words[found[0]] += 1
                self.assertIs(type(found), tuple)
                out = out_by_words(calls, longest)
                if out:
                    self.assertEqual([found[0], len(found)], ["out", 2])
                    self.assertIs(type(found[1]), int)
                    self.assertIn(found[1], out)
                else:
                    self.assertTrue(same(found, ("in",)))
                self.assertIs(calls_holds(calls, longest, found), True)
        self.assertGreater(min(words.values()), 30)


class TestCallsHolds(unittest.TestCase):
    def test_all_positions(self):
        answers = {True: 0, False: 0}
        for calls, longest in MANY:
            out = out_by_words(calls, longest)
            self.assertIs(calls_holds(calls, longest, ("in",)), not out)
            for at in range(-2, len(calls) + 2):
                answers[at in out] += 1
                with self.subTest(calls=calls, longest=longest, at=at):
                    self.assertIs(unchanged(calls_holds, calls, longest, ("out", at)), at in out)
        self.assertGreater(min(answers.values()), 100)

    def test_no_certificates(self):
        for calls in (CALLS, MORE, ()):
            for thing in NO_CERTIFICATES + (("close",), ("kept",), ("breaks", 1, 1), ("late", 1), calls):
                with self.subTest(calls=calls, thing=thing):
                    self.assertIs(unchanged(calls_holds, calls, 2, thing), False)

    def test_positions_that_are_none(self):
        calls = ((1, 4, 1), (1, 4, 1))
        self.assertIs(calls_holds(calls, 2, ("out", 0)), True)
        self.assertIs(calls_holds(calls, 2, ("out", 1)), True)
        for at in (2, -1, -2, BIG, -BIG, True, False, None, "1", (1,), [1], {1: 1}, (1, 1), LINE, [LINE]):
            with self.subTest(at):
                self.assertIs(unchanged(calls_holds, calls, 2, ("out", at)), False)
        for thing in (["out", 1], ("out", 1, 1), ("in", 1), (1, "out"), ("Out", 1), ("out",), ("in",), (("out", 1),)):
            with self.subTest(thing):
                self.assertIs(unchanged(calls_holds, calls, 2, thing), False)


class TestAdmitted(unittest.TestCase):
    def test_some(self):
        self.assertTrue(same(admitted((), 5), ()))
        self.assertTrue(same(admitted(((9, 4, 11),), 7), (0,)))
        self.assertTrue(same(admitted(((9, 4, 10),), 7), ()))
        # A call that is not admitted does not stand in the way of the later ones.
        self.assertTrue(same(admitted(((9, 4, 10), (1, 1, 8)), 7), (1,)))
        # The second call would keep its own wish, but not let the first one keep its.
        self.assertTrue(same(admitted(((1, 3, 5), (1, 1, 99), (1, 2, 99)), 2), (0,)))
        self.assertTrue(same(admitted(((1, 3, 8), (1, 1, 99), (1, 2, 99)), 2), (0, 1)))
        # Just the wish is enough.
        self.assertTrue(same(admitted(((1, 3, 11), (1, 1, 99), (1, 2, 99)), 2), (0, 1, 2)))

    def test_the_order_counts(self):
        calls = ((1, 2, 4), (1, 1, 99))
        self.assertTrue(same(admitted(calls, 2), (0,)))
        self.assertTrue(same(admitted(calls[::-1], 2), (0,)))

    def test_against_the_words(self):
        for calls, longest in MANY:
            for each in (calls, calls[::-1]):
                with self.subTest(calls=each, longest=longest):
                    self.assertTrue(same(unchanged(admitted, each, longest), admitted_by_words(each, longest)))

    def test_the_admitted_ones_are_in_and_no_other_one_could_be_added(self):
        for calls, longest in MANY[::3]:
            found = admitted(calls, longest)
            taken = tuple([calls[at] for at in found])
            with self.subTest(calls=calls, longest=longest):
                self.assertEqual(judge_calls(taken, longest), ("in",))
                for at in set(range(len(calls))) - set(found):
                    self.assertEqual(judge_calls(taken + (calls[at],), longest)[0], "out")

    def test_if_all_are_in_all_are_admitted_in_each_order(self):
        for order in itertools.permutations(CALLS + ((3, 1, 99),)):
            calls = tuple([(weight, burst, 99) for weight, burst, _ in order])
            self.assertEqual(judge_calls(calls, 2), ("in",))
            self.assertEqual(admitted(calls, 2), (0, 1, 2))

    def test_somewhat_beyond_the_limits(self):
        calls = ((41, 41, 10001),) * 13
        self.assertEqual(admitted(calls, 61), tuple(range(13)))
        self.assertTrue(same(promises(((BIG, BIG, 1),), BIG), (pair_of(2 * BIG),)))


if __name__ == "__main__":
    unittest.main()
