"""The guarantee [0.3], over the whole program: a text read, scheduled, sent through lines, and judged."""

import random
import unittest
from fractions import Fraction

from fairqueue.admission import admitted, promises
from fairqueue.buckets import judge_bucket, shaped
from fairqueue.clock import moment_of, tags
from fairqueue.close import close_holds, extremes, is_close, judge_close, lateness
from fairqueue.fair import schedule
from fairqueue.flows import longest, own_longest, share
from fairqueue.ideal import ideal_ends
from fairqueue.live import Line, continued, is_state
from fairqueue.rows import row_bound, through
from fairqueue.rules import schedule_by
from fairqueue.schedules import is_busy, is_schedule
from fairqueue.texts import read, written
from fairqueue.waits import wait_bound, waits
from tests.support import CASES, RULES, Distance, chance_cases, made, number_of, pair_of, same

MANY = CASES + chance_cases(31, 60, flows=5, packets=12)


def sent_live(weights, arrivals, stops):
    """What a line sends when the arrivals come to it live; at the stops it is cut and continued."""
    line, sent = Line(weights), ()
    for moment, flow, length in arrivals:
        while line.now() < moment:
            sent += line.go(line.now() + 1)
            if line.now() in stops:
                line = continued(line.state())
        line.arrive(flow, length)
    return sent + line.go(line.now() + sum([length for _, _, length in arrivals]) + 1)


class TestWhole(unittest.TestCase):
    def test_a_text_read_scheduled_sent_live_and_judged(self):
        for weights, arrivals in MANY:
            text = written(weights, arrivals)
            with self.subTest(text):
                self.assertTrue(same(read(text), (weights, arrivals)))
                found = schedule(*read(text))
                self.assertIs(is_schedule(weights, arrivals, found), True)
                self.assertIs(is_busy(weights, arrivals, found), True)
                self.assertTrue(same(sent_live(weights, arrivals, ()), found))
                self.assertTrue(same(judge_close(weights, arrivals, found), ("close",)))

    def test_a_line_stopped_at_any_moment_sends_what_it_would_have_sent(self):
        for weights, arrivals in MANY[::3]:
            last = max([moment for moment, _, _ in arrivals], default=0)
            stops = range(last + 1) if last < 60 else range(0, last, 97)
            with self.subTest(weights=weights, arrivals=arrivals):
                self.assertTrue(same(sent_live(weights, arrivals, stops), schedule(weights, arrivals)))

    def test_a_state_of_what_was_read_is_continued(self):
        for weights, arrivals in MANY[::2]:
            weights, arrivals = read(written(weights, arrivals))
            found = schedule(weights, arrivals)
            last = max([moment for moment, _, _ in arrivals], default=0)
            for now in (last, last + 1, last + 7, 20000):
                state = (weights, arrivals, tuple([pair for pair in found if pair[1] < now]), now)
                with self.subTest(state):
                    self.assertIs(is_state(state), True)
                    line = continued(state)
                    self.assertTrue(same(state[2] + line.go(now + 20000), found))
                    self.assertTrue(same(line.waiting(), ()))


class TestFairRule(unittest.TestCase):
    def test_at_every_moment_each_flow_is_behind_and_ahead_within_the_bounds(self):
        for weights, arrivals in MANY:
            found = schedule(weights, arrivals)
            most = longest(weights, arrivals)
            with self.subTest(weights=weights, arrivals=arrivals):
                for flow, (behind, ahead) in enumerate(extremes(weights, arrivals, found)):
                    self.assertLessEqual(number_of(behind), most)
                    own = own_longest(weights, arrivals, flow)
                    self.assertLessEqual(number_of(ahead), own * (1 - number_of(share(weights, flow))))
                for late in lateness(weights, arrivals, found):
                    self.assertLessEqual(number_of(late), most)

    def test_tags_are_fixed_at_the_arrival_and_give_the_ideal_end_by_the_clock(self):
        for weights, arrivals in MANY[::2]:
            found = tags(weights, arrivals)
            for many in range(1, len(arrivals) + 1):
                with self.subTest(weights=weights, arrivals=arrivals, many=many):
                    self.assertEqual(tags(weights, arrivals[:many])[many - 1], found[many - 1])
            ends = tuple([moment_of(weights, arrivals, end) for _, end in found])
            with self.subTest(weights=weights, arrivals=arrivals):
                self.assertTrue(same(ends, ideal_ends(weights, arrivals)))


class TestAnySchedule(unittest.TestCase):
    def test_it_is_close_or_a_certificate_shows_that_it_is_not(self):
        for weights, arrivals in MANY[::2]:
            pairs_of_all = made(32, arrivals)[::2] + [schedule_by(rule, weights, arrivals) for rule in RULES]
            for pairs in pairs_of_all:
                distance = Distance(weights, arrivals, pairs)
                found = judge_close(weights, arrivals, pairs)
                with self.subTest(weights=weights, arrivals=arrivals, pairs=pairs):
                    self.assertIs(distance.is_right(found), True)
                    self.assertIs(close_holds(weights, arrivals, pairs, found), True)
                    self.assertIs(close_holds(weights, arrivals, pairs, ("close",)), distance.is_close())
                    self.assertIs(is_close(weights, arrivals, pairs), distance.is_close())


class TestWaits(unittest.TestCase):
    def crowd(self, source, weights, many):
        """Packets of all flows but the flow 0, at the limits of length, in no order."""
        flows = range(1, len(weights))
        return [(source.randint(0, 40), source.choice(flows), source.choice((1, 60, 30))) for _ in range(many)]

    def test_on_one_line_and_on_rows_whatever_the_others_send(self):
        source = random.Random(33)
        for _ in range(60):
            row, packets = [], []
            for _ in range(source.randint(1, 4)):
                weights = tuple([source.randint(1, 12) for _ in range(source.randint(2, 8))])
                row.append((weights, tuple(sorted(self.crowd(source, weights, source.randint(0, 22))))))
            row = tuple(row)
            least = min([Fraction(weights[0], sum(weights)) for weights, _ in row])
            burst, rate = source.randint(5, 12), pair_of(least / source.choice((1, 1, 2)))
            sent = tuple(sorted([(source.randint(0, 60), 0, source.randint(1, 5)) for _ in range(8)]))
            kept = shaped(sent, 0, (burst, rate))
            self.assertEqual(judge_bucket(kept, 0, (burst, rate)), ("kept",))
            packets = tuple([(moment, length) for moment, _, length in kept])
            bound = number_of(row_bound(row, burst, 5))
            with self.subTest(row=row, packets=packets):
                for (moment, _), end in zip(packets, through(row, packets)[-1]):
                    self.assertLessEqual(end - moment, bound)
                weights, cross = row[0]
                arrivals = tuple(sorted(kept + cross, key=lambda packet: packet[0]))
                most = longest(weights, arrivals)
                for wait, packet in zip(waits(arrivals, schedule(weights, arrivals)), arrivals):
                    if packet[1] == 0:
                        self.assertLessEqual(wait, number_of(wait_bound(weights, 0, burst, most)))

    def test_admitted_calls_wait_no_longer_than_they_wish(self):
        source = random.Random(34)
        for _ in range(60):
            calls = tuple([(source.randint(1, 9), source.randint(1, 20), source.randint(20, 400)) for _ in range(8)])
            taken = [calls[at] for at in admitted(calls, 6)]
            if not taken:
                continue
            weights = tuple([weight for weight, _, _ in taken])
            arrivals = []
            for flow, (weight, burst, _) in enumerate(taken):
                lengths = [min(6, burst)] * 4
                sent = tuple([(0, flow, length) for length in lengths])
                arrivals += shaped(sent, flow, (burst, pair_of(Fraction(weight, sum(weights)))))
            arrivals = tuple(sorted(arrivals))
            found = waits(arrivals, schedule(weights, arrivals))
            promised = promises(tuple(taken), 6)
            with self.subTest(calls=calls):
                for wait, (_, flow, _) in zip(found, arrivals):
                    self.assertLessEqual(wait, number_of(promised[flow]))
                    self.assertLessEqual(wait, taken[flow][2])


if __name__ == "__main__":
    unittest.main()
