"""Weights and arrivals as a text, there and back."""

from fairqueue.errors import BadText
from fairqueue.flows import check_arrivals, is_arrivals, is_weights


def line_of(word, integers):
    """The line of the word and the integers."""
    return " ".join([word] + [str(integer) for integer in integers])


def written(weights, arrivals):
    """The text of the weights and the arrivals."""
    check_arrivals(weights, arrivals)
    lines = [line_of("weights", weights)]
    return "\n".join(lines + [line_of("packet", packet) for packet in arrivals])


def integer_of(part):
    """The integer from 0 on that Python writes as the part, None if there is none."""
    # isdigit alone would let in digits of other scripts, which int reads too.
    if not part.isascii() or not part.isdigit():
        return None
    if part.startswith("0") and part != "0":
        return None
    return int(part)


def integers_of(word, line):
    """The integers from 0 on of a line of the word and these, None if it is no such line."""
    # The blank is given, so that a blank too many leaves an empty part.
    parts = line.split(" ")
    integers = [integer_of(part) for part in parts[1:]]
    if parts[0] != word or None in integers:
        return None
    return tuple(integers)


def read(text):
    """The pair of the weights and the arrivals of a text."""
    if not isinstance(text, str):
        raise BadText(0)
    # Not splitlines, which would end lines at more signs than the line feed.
    lines = text.split("\n")
    weights = integers_of("weights", lines[0])
    if not is_weights(weights):
        raise BadText(1)
    packets = []
    for at, line in enumerate(lines[1:], start=2):
        packet = integers_of("packet", line)
        # The lines before are right, so only the packet just before matters.
        if not is_arrivals(weights, tuple(packets[-1:] + [packet])):
            raise BadText(at)
        packets.append(packet)
    return weights, tuple(packets)
