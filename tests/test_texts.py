"""Texts [1.3]: written and read."""

import re
import unittest

from fairqueue.errors import BadArrivals, BadText, BadWeights
from fairqueue.texts import read, written
from tests.support import ARRIVALS, BIG, NOT_ARRIVALS, NOT_WEIGHTS, SOME, TWO, caught, same, unchanged

RIGHT = "weights 2 1\npacket 0 0 2\npacket 0 1 2\npacket 1 0 2"

NUMBER = "(0|[1-9][0-9]*)"
WEIGHTS_LINE = re.compile("weights( [1-9][0-9]*)+")
PACKET_LINE = re.compile(f"packet {NUMBER} {NUMBER} ([1-9][0-9]*)")


def due(text):
    """The line that BadText is due for, None if the string is a text; found another way than by read."""
    lines = text.split("\n")
    if not WEIGHTS_LINE.fullmatch(lines[0]):
        return 1
    flows, last = lines[0].count(" "), 0
    for at, line in enumerate(lines[1:], start=2):
        match = PACKET_LINE.fullmatch(line)
        if not match or int(match[1]) < last or int(match[2]) >= flows:
            return at
        last = int(match[1])
    return None


class TestExamples(unittest.TestCase):
    def test_as_the_document_gives_them(self):
        found = [written(TWO, SOME), read(written(TWO, SOME)) == (TWO, SOME)]
        self.assertTrue(same(found, [RIGHT, True]))
        error = caught(read, "weights 2 1\npacket 3 0 2\npacket 2 0 2")
        self.assertIs(type(error), BadText)
        self.assertTrue(same(error.at, 3))


class TestWritten(unittest.TestCase):
    def test_some(self):
        self.assertEqual(written((1,), ()), "weights 1")
        self.assertEqual(written((10, 7, 3), ()), "weights 10 7 3")
        self.assertEqual(written((5,), ((0, 0, 1),)), "weights 5\npacket 0 0 1")
        self.assertEqual(written((BIG,), ((BIG, 0, BIG),)), f"weights {BIG}\npacket {BIG} 0 {BIG}")
        self.assertEqual(written(TWO, SOME), RIGHT)

    def test_by_name(self):
        self.assertEqual(written(weights=TWO, arrivals=SOME), RIGHT)
        self.assertEqual(written(arrivals=(), weights=TWO), "weights 2 1")

    def raised(self, kind, thing, *values, **named):
        with self.subTest(thing=thing):
            error = caught(written, *values, **named)
            self.assertIs(type(error), kind)
            self.assertIs(error.thing, thing)

    def test_bad_weights(self):
        for thing in NOT_WEIGHTS:
            self.raised(BadWeights, thing, thing, SOME)
            self.raised(BadWeights, thing, thing, ())

    def test_bad_arrivals(self):
        for thing in NOT_ARRIVALS:
            self.raised(BadArrivals, thing, TWO, thing)

    def test_both_raise_that_of_the_first(self):
        for weights in ([2, 1], (), (0,), None):
            for arrivals in ([], ((0, 0, 0),), None, SOME[::-1]):
                self.raised(BadWeights, weights, weights, arrivals)
                self.raised(BadWeights, weights, arrivals=arrivals, weights=weights)


class TestThereAndBack(unittest.TestCase):
    def test_what_is_written_is_read(self):
        for weights in (TWO, (1, 1), (12,) * 8, (13,) * 9, (10, 100, 1000), (BIG, 1)):
            for arrivals in ARRIVALS:
                with self.subTest(weights=weights, arrivals=arrivals):
                    text = unchanged(written, weights, arrivals)
                    self.assertIs(type(text), str)
                    self.assertIs(due(text), None)
                    self.assertTrue(same(read(text), (weights, arrivals)))

    def test_by_name(self):
        self.assertEqual(read(text=RIGHT), (TWO, SOME))

    def test_a_text_is_written_by_one_pair_only(self):
        for text in ("weights 1", "weights 10 9\npacket 0 1 10", RIGHT, RIGHT + "\npacket 10 1 20"):
            self.assertEqual(written(*read(text)), text)


class TestRead(unittest.TestCase):
    def wrong(self, text, at):
        with self.subTest(text=text):
            error = caught(read, text)
            self.assertIs(type(error), BadText)
            self.assertTrue(same(error.at, at))

    def test_values_that_are_no_strings(self):
        for value in (None, True, False, 0, 1, -BIG, (), [], {}, TWO, (TWO, SOME), (RIGHT,), [RIGHT], {RIGHT: 1}):
            self.wrong(value, 0)
        self.wrong(RIGHT.encode(), 0)
        self.wrong(RIGHT.split("\n"), 0)

    def test_by_name(self):
        self.assertEqual(caught(read, text=None).at, 0)
        self.assertEqual(caught(read, text="").at, 1)

    def test_no_lines_but_empty_ones(self):
        for text in ("", "\n", "\n\n", " ", "\t", " \n ", "\n" + RIGHT):
            self.wrong(text, 1)

    def test_the_line_of_weights(self):
        for line in (
            "weights",
            "weights ",
            "weights 0",
            "weights 2 0",
            "weights 0 2",
            "weights -1",
            "weights +1",
            "weights 01",
            "weights 1_0",
            "weights 1.0",
            "weights 1e1",
            "weights 0x1",
            "weights two",
            "weights True",
            "weights None",
            "weights (2, 1)",
            "weights 2, 1",
            "weights 2  1",
            "weights  2 1",
            "weights 2 1 ",
            " weights 2 1",
            "weights\t2 1",
            "weights 2\t1",
            "weights 2 1\t",
            "weights 2 1\r",
            "weights2 1",
            "weight 2 1",
            "Weights 2 1",
            "WEIGHTS 2 1",
            "packet 2 1",
            "2 1",
            "2 weights 1",
            "weights weights 2 1",
            "packet 0 0 2",
            "weights \u0662 1",
            "weights \u00b2 1",
            "weights 2\u00a01",
        ):
            self.wrong(line, 1)
            self.wrong(line + "\npacket 0 0 2", 1)
            self.wrong(line + "\nnothing", 1)

    def test_a_line_of_a_packet(self):
        for line in (
            "",
            " ",
            "packet",
            "packet ",
            "packet 1",
            "packet 1 0",
            "packet 1 0 ",
            "packet 1 0 2 2",
            "packet 1 0 2 packet 1 0 2",
            "packet 1 0 0",
            "packet 1 0 -2",
            "packet -1 0 2",
            "packet -0 0 2",
            "packet 1 -0 2",
            "packet 1 -1 2",
            "packet 1 2 2",
            "packet 1 20 2",
            "packet +1 0 2",
            "packet 1 +0 2",
            "packet 1 0 +2",
            "packet 01 0 2",
            "packet 00 0 2",
            "packet 1 00 2",
            "packet 1 0 02",
            "packet 1_0 0 2",
            "packet 1 0 2_0",
            "packet 1.0 0 2",
            "packet 1 0 two",
            "packet True 0 2",
            "packet 1 False 2",
            "packet 1 0 True",
            "packet  1 0 2",
            "packet 1  0 2",
            "packet 1 0  2",
            "packet 1 0 2 ",
            " packet 1 0 2",
            "packet\t1 0 2",
            "packet 1\t0 2",
            "packet 1 0 2\t",
            "packet 1 0 2\r",
            "packet 1 0 2\x0b",
            "packet 1 0 2\x0cpacket 1 0 2",
            "packet 1 0 2\u2028packet 1 0 2",
            "packet1 0 2",
            "packets 1 0 2",
            "Packet 1 0 2",
            "PACKET 1 0 2",
            "1 0 2",
            "1 packet 0 2",
            "weights 2 1",
            "weights 1 0 2",
            "packet \u0661 0 2",
            "packet 1 \u0660 2",
            "packet 1 0 \u00b2",
            "packet 1 0 \uff12",
        ):
            self.wrong("weights 2 1\n" + line, 2)
            self.wrong(RIGHT + "\n" + line, 5)
            self.wrong(RIGHT + "\n" + line + "\npacket 2 0 2", 5)
            self.wrong(RIGHT + "\n" + line + "\nnothing", 5)

    def test_a_line_feed_at_the_end(self):
        self.wrong("weights 2 1\n", 2)
        self.wrong(RIGHT + "\n", 5)
        self.wrong(RIGHT + "\n\n", 5)

    def test_line_feeds_of_other_kinds(self):
        self.wrong(RIGHT.replace("\n", "\r\n"), 1)
        self.wrong(RIGHT.replace("\n", "\r"), 1)

    def test_lines_left_out_twice_or_exchanged(self):
        first, *packets = RIGHT.split("\n")
        self.wrong("\n".join(packets), 1)
        self.wrong("\n".join([first] + [first] + packets), 2)
        self.wrong("\n".join([first] + packets + [first]), 5)
        self.wrong("\n".join([packets[0], first] + packets[1:]), 1)
        self.wrong("\n".join([first, packets[0], packets[2], packets[1]]), 4)
        self.wrong("\n".join([first] + packets[::-1]), 3)
        self.wrong("\n".join([first, "", *packets]), 2)
        self.wrong("\n".join([first, packets[0], "", packets[1]]), 3)

    def test_packets_left_out_twice_or_exchanged_at_one_moment_are_right(self):
        first, *packets = RIGHT.split("\n")
        for chosen in ((0, 2), (0, 1), (1, 2), (2,), (0, 0, 1, 2), (0, 1, 2, 2), (1, 0, 2)):
            text = "\n".join([first] + [packets[k] for k in chosen])
            with self.subTest(text):
                self.assertEqual(read(text), (TWO, tuple([SOME[k] for k in chosen])))

    def test_a_moment_below_the_one_ahead(self):
        self.wrong("weights 1\npacket 1 0 1\npacket 0 0 1", 3)
        self.wrong("weights 1\npacket 9 0 1\npacket 10 0 1\npacket 9 0 1\npacket 8 0 1", 4)
        self.wrong(f"weights 1\npacket {BIG} 0 1\npacket {BIG - 1} 0 1", 3)
        # By their signs, not their numbers, these would descend or not.
        self.assertEqual(read("weights 1\npacket 9 0 1\npacket 10 0 1")[1], ((9, 0, 1), (10, 0, 1)))
        self.wrong("weights 1\npacket 10 0 1\npacket 9 0 1", 3)

    def test_a_flow_that_the_weights_do_not_have(self):
        self.wrong("weights 1\npacket 0 1 1", 2)
        self.wrong("weights 1 1 1\npacket 0 2 1\npacket 0 3 1", 3)
        self.assertEqual(read("weights 1 1 1\npacket 0 2 1"), ((1, 1, 1), ((0, 2, 1),)))

    def test_only_the_first_wrong_line_counts(self):
        self.wrong("weights 2 1\npacket 0 5 2\npacket x\n", 2)
        self.wrong("weights 0\npacket x", 1)

    def test_one_sign_otherwise(self):
        signs = " \n\t\r0129+-_.,apw\u0661"
        texts = []
        for at in range(len(RIGHT) + 1):
            texts += [RIGHT[:at] + RIGHT[at + 1 :]]
            texts += [RIGHT[:at] + sign + RIGHT[at:] for sign in signs]
            texts += [RIGHT[:at] + sign + RIGHT[at + 1 :] for sign in signs]
        for text in texts:
            line = due(text)
            if line is None:
                with self.subTest(text=text):
                    self.assertEqual(written(*read(text)), text)
            else:
                self.wrong(text, line)

    def test_the_lines_before_the_wrong_one_are_a_text(self):
        lines = "weights 3\npacket 4 0 1\npacket 4 0 7\npacket 3 0 1".split("\n")
        self.wrong("\n".join(lines), 4)
        for many in (1, 2, 3):
            self.assertEqual(len(read("\n".join(lines[:many]))[1]), many - 1)

    def test_many_signs(self):
        text = "weights " + " ".join(["12"] * 8) + "\npacket 2000 7 60" * 200
        self.assertGreater(len(text), 3000)
        self.assertEqual(read(text), ((12,) * 8, ((2000, 7, 60),) * 200))
        self.wrong(text + "\n", 202)
        self.wrong("9" * 5000, 1)
        self.wrong("\n" * 5000, 1)


if __name__ == "__main__":
    unittest.main()
