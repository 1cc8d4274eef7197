"""Waits, their bound, and arrivals that reach the bounds or come near to them."""

from fairqueue.flows import check_arrivals_for_some, check_flow, check_weights
from fairqueue.kinds import ceiling, check_number, fraction, plus
from fairqueue.schedules import check_schedule_of, ends_of

# No packet within the limits of the document is longer.
GREATEST_LENGTH = 60


def waits(arrivals, schedule):
    """The tuple of the waits of the packets, in the order of their numbers."""
    check_arrivals_for_some(arrivals)
    check_schedule_of(arrivals, schedule)
    return tuple([end - packet[0] for end, packet in zip(ends_of(arrivals, schedule), arrivals)])


def bound_of(whole, weight, burst, longest):
    """The wait bound of a flow of this weight, the weights having the whole as their sum."""
    return plus(fraction(burst * whole, weight), (longest, 1))


def wait_bound(weights, flow, burst, longest):
    """The wait bound of the flow, a fraction."""
    check_weights(weights)
    check_flow(weights, flow)
    check_number(burst)
    check_number(longest)
    return bound_of(sum(weights), weights[flow], burst, longest)


def lengths_of(amount):
    """The lengths of as few packets as may be that have this sum."""
    lengths = [GREATEST_LENGTH] * (amount // GREATEST_LENGTH)
    rest = amount - sum(lengths)
    return lengths + [rest] if rest > 0 else lengths


def full_arrivals(weights, flow, burst):
    """Arrivals in which the flow sends burst at the moment 0 and is given it as late as the bound allows."""
    check_weights(weights)
    check_flow(weights, flow)
    check_number(burst)
    packets = []
    for other, weight in enumerate(weights):
        # At the rate of its weight the other flow waits until all of the flow's has been given, or longer.
        amount = ceiling(burst * weight, weights[flow])
        packets = packets + [(0, other, length) for length in lengths_of(amount)]
    return tuple(packets)


def near_behind(k):
    """Weights and arrivals by which a flow is behind by the longest length times (1 - 1 / k) or more."""
    check_number(k)
    # When the flow 1 is started, at length, it is behind by (length - 1) * (k + 2) / (k + 3). This is at least
    # length * (k - 1) / k just if 3 * length is at least k * (k + 2).
    length = ceiling(k * (k + 2), 3)
    return (1, k + 2), ((0, 0, length), (1, 1, length))


def full_ahead(weights, flow, length):
    """Arrivals by which the flow is ahead by its own longest length, this one, times (1 - its share)."""
    check_weights(weights)
    check_flow(weights, flow)
    check_number(length)
    packets = [(0, flow, length)]
    for other, weight in enumerate(weights):
        if other != flow:
            # Just too long to have the lesser end tag, so that the flow is served first while all others wait.
            packets.append((0, other, length * weight // weights[flow] + 1))
    return tuple(packets)
