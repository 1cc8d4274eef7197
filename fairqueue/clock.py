"""The clock of the ideal line, and the tags of the packets by it.

The clock is kept as its legs. A leg is a triple (moment, value, weight): from
the moment on, at which the clock is at the value, flows whose weights have
this sum wait, until the next leg begins. The last leg has no end.
"""

from fairqueue.errors import BadNumber
from fairqueue.flows import check_arrivals
from fairqueue.kinds import (
    ZERO,
    check_moment,
    fraction,
    greater,
    is_below,
    is_from_zero,
    least,
    minus,
    over,
    plus,
    times,
)


def value_on(leg, moment):
    """The clock at a moment of the leg."""
    begun, value, weight = leg
    if weight == 0:
        return value
    return plus(value, over(minus(moment, begun), weight))


def moment_on(leg, value):
    """The moment of a leg, on which some flow waits, at which the clock is at the value."""
    begun, first, weight = leg
    return plus(begun, times(minus(value, first), weight))


def leg_from(weights, finals, moment, value):
    """The leg from the moment and value on, the last packets of the flows having the end tags finals."""
    # A flow waits just until the clock is at the end tag of its last packet.
    waiting = [weight for weight, final in zip(weights, finals) if is_below(value, final)]
    return moment, value, sum(waiting)


def leg_after(weights, finals, leg):
    """The leg that follows on the leg if nothing arrives, None if that one has no end then."""
    _, value, weight = leg
    if weight == 0:
        return None
    first = least([final for final in finals if is_below(value, final)])
    return leg_from(weights, finals, moment_on(leg, first), first)


def legs_until(weights, finals, leg, moment):
    """The legs that follow on the leg up to the moment, or all of them for None, if nothing arrives."""
    legs = []
    following = leg_after(weights, finals, leg)
    while following is not None and (moment is None or not is_below(moment, following[0])):
        legs.append(following)
        following = leg_after(weights, finals, following)
    return legs


def tags_and_legs(weights, arrivals):
    """The tuple of the pairs of tags of the packets, and the list of the legs of the clock."""
    finals = [ZERO for _ in weights]
    pairs = []
    legs = [leg_from(weights, finals, ZERO, ZERO)]
    for whole, flow, length in arrivals:
        moment = (whole, 1)
        legs = legs + legs_until(weights, finals, legs[-1], moment)
        value = value_on(legs[-1], moment)
        begin = greater(value, finals[flow])
        end = plus(begin, fraction(length, weights[flow]))
        pairs.append((begin, end))
        finals[flow] = end
        legs.append(leg_from(weights, finals, moment, value))
    return tuple(pairs), legs + legs_until(weights, finals, legs[-1], None)


def clock_at(legs, moment):
    """The clock of the legs at the moment."""
    begun = [leg for leg in legs if not is_below(moment, leg[0])]
    return value_on(begun[-1], moment)


def moment_at(legs, value):
    """The least moment at which the clock of the legs is at least the value, None if there is none."""
    earlier = [leg for leg in legs if is_below(leg[1], value)]
    if not earlier:
        return ZERO
    # A leg on which the clock stands still is the last one below a value only if it has no end.
    if earlier[-1][2] == 0:
        return None
    return moment_on(earlier[-1], value)


def clock(weights, arrivals, moment):
    """The clock at the moment, a fraction."""
    check_arrivals(weights, arrivals)
    check_moment(moment)
    _, legs = tags_and_legs(weights, arrivals)
    return clock_at(legs, moment)


def tags(weights, arrivals):
    """The tuple of the pairs (begin tag, end tag) of the packets, in order, as fractions."""
    check_arrivals(weights, arrivals)
    pairs, _ = tags_and_legs(weights, arrivals)
    return pairs


def moment_of(weights, arrivals, value):
    """The least moment at which the clock is at least the value, a fraction, None if there is none."""
    check_arrivals(weights, arrivals)
    if not is_from_zero(value):
        raise BadNumber(value)
    _, legs = tags_and_legs(weights, arrivals)
    return moment_at(legs, value)
