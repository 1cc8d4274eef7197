"""Rows of lines, through which the flow 0 goes while other packets cross it on each line."""

from fairqueue.errors import BadPackets, BadRow
from fairqueue.fair import schedule
from fairqueue.flows import is_arrivals, is_weights, share
from fairqueue.kinds import check_number, do_not_descend, fraction, is_from_one, is_whole, least, plus
from fairqueue.schedules import ends_of


def is_line(thing):
    """Whether any value is the pair (weights, cross) of a line of a row."""
    if not isinstance(thing, tuple) or len(thing) != 2:
        return False
    weights, cross = thing
    if not is_weights(weights) or not is_arrivals(weights, cross):
        return False
    return all([flow != 0 for _, flow, _ in cross])


def is_row(thing):
    """Whether any value is a row."""
    if not isinstance(thing, tuple) or len(thing) == 0:
        return False
    return all([is_line(line) for line in thing])


def is_packet_through(thing):
    """Whether any value is a packet (moment, length) of the flow 0."""
    if not isinstance(thing, tuple) or len(thing) != 2:
        return False
    moment, length = thing
    return is_whole(moment) and moment >= 0 and is_from_one(length)


def are_packets(thing):
    """Whether any value is packets of the flow 0."""
    if not isinstance(thing, tuple) or not all([is_packet_through(packet) for packet in thing]):
        return False
    return do_not_descend([moment for moment, _ in thing])


def check_row(row):
    """Raise BadRow if the value is not a row."""
    if not is_row(row):
        raise BadRow(row)


def ends_on(weights, cross, packets):
    """The tuple of the ends of the packets of the flow 0 on a line, in their order."""
    # Sorting leaves packets of the same moment as they stand, those of the flow 0 before the cross packets.
    own = [(moment, 0, length) for moment, length in packets]
    arrivals = tuple(sorted(own + list(cross), key=lambda packet: packet[0]))
    ends = ends_of(arrivals, schedule(weights, arrivals))
    return tuple([end for end, (_, flow, _) in zip(ends, arrivals) if flow == 0])


def through(row, packets):
    """The tuple, for each line, of the tuple of the ends of the packets of the flow 0 there."""
    check_row(row)
    if not are_packets(packets):
        raise BadPackets(packets)
    rows = []
    coming = packets
    for weights, cross in row:
        ends = ends_on(weights, cross, coming)
        rows.append(ends)
        coming = [(end, length) for end, (_, length) in zip(ends, packets)]
    return tuple(rows)


def row_bound(row, burst, longest):
    """The row bound, a fraction."""
    check_row(row)
    check_number(burst)
    check_number(longest)
    top, bottom = least([share(weights, 0) for weights, _ in row])
    bound = fraction((burst + (len(row) - 1) * longest) * bottom, top)
    for _, cross in row:
        bound = plus(bound, (max([longest] + [length for _, _, length in cross]), 1))
    return bound
