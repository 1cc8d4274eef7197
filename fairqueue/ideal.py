"""The ideal line, which gives to all waiting flows at once."""

from fairqueue.clock import clock_at, moment_at, tags_and_legs
from fairqueue.flows import check_arrivals
from fairqueue.kinds import ZERO, check_moment, is_below, minus, plus, times


def ideal_ends(weights, arrivals):
    """The tuple of the ideal ends of the packets, in order, as fractions."""
    check_arrivals(weights, arrivals)
    tags, legs = tags_and_legs(weights, arrivals)
    return tuple([moment_at(legs, end) for _, end in tags])


def given_of(length, weight, tags, value):
    """What has been given of a packet with these two tags when the clock is at the value."""
    begin, end = tags
    if not is_below(begin, value):
        return ZERO
    if is_below(value, end):
        return times(minus(value, begin), weight)
    return length, 1


def given_at(weights, arrivals, tags, legs, moment):
    """The tuple of what each flow has been given until the moment, by the tags and the legs of the clock."""
    value = clock_at(legs, moment)
    amounts = [ZERO for _ in weights]
    # A packet that arrives later has a begin tag that is not below this value, so it adds nothing.
    for (_, flow, length), own in zip(arrivals, tags):
        amounts[flow] = plus(amounts[flow], given_of(length, weights[flow], own, value))
    return tuple(amounts)


def ideal_given(weights, arrivals, moment):
    """The tuple of what each flow has been given until the moment, as fractions."""
    check_arrivals(weights, arrivals)
    check_moment(moment)
    tags, legs = tags_and_legs(weights, arrivals)
    return given_at(weights, arrivals, tags, legs, moment)


def busy(weights, arrivals):
    """The ascending tuple of the busy stretches, as pairs (begin, end) of integers."""
    check_arrivals(weights, arrivals)
    stretches = []
    for moment, _, length in arrivals:
        if stretches and moment <= stretches[-1][1]:
            begin, end = stretches.pop()
            stretches.append((begin, end + length))
        else:
            stretches.append((moment, moment + length))
    return tuple(stretches)
