"""How far a schedule is from the ideal line, and whether it is close to it."""

from fairqueue.clock import tags_and_legs
from fairqueue.flows import is_flow, longest, longest_of
from fairqueue.ideal import given_at, ideal_ends
from fairqueue.kinds import (
    fraction,
    greatest,
    has_form,
    is_below,
    is_from_zero,
    is_position,
    minus,
    times,
)
from fairqueue.schedules import check_schedule, ends_of, sent_at


def turns(arrivals, schedule):
    """The ascending list of the moments at which flows are behind or ahead by their greatest values."""
    # The line sends at the rate 1, the ideal one gives to a flow at most at this rate. So a flow does not
    # fall behind while a packet of it is sent, and does not get ahead while none is. Without packets 0 is left.
    starts = [start for _, start in schedule]
    moments = sorted(set([0] + starts + list(ends_of(arrivals, schedule))))
    return [(moment, 1) for moment in moments]


def behind_at(weights, arrivals, schedule, tags, legs, moment):
    """The list of what each flow is behind by at the moment; ahead is behind with the other sign."""
    given = given_at(weights, arrivals, tags, legs, moment)
    done = sent_at(weights, arrivals, schedule, moment)
    return [minus(amount, other) for amount, other in zip(given, done)]


def behind_at_turns(weights, arrivals, schedule):
    """The list of the pairs (moment, what each flow is behind by then) for all turns."""
    tags, legs = tags_and_legs(weights, arrivals)
    rows = []
    for moment in turns(arrivals, schedule):
        rows.append((moment, behind_at(weights, arrivals, schedule, tags, legs, moment)))
    return rows


def extremes(weights, arrivals, schedule):
    """The tuple, for each flow, of the pair (greatest behind, greatest ahead), as fractions."""
    check_schedule(weights, arrivals, schedule)
    rows = [amounts for _, amounts in behind_at_turns(weights, arrivals, schedule)]
    pairs = []
    for flow in range(len(weights)):
        behind = [amounts[flow] for amounts in rows]
        ahead = [times(amount, -1) for amount in behind]
        pairs.append((greatest(behind), greatest(ahead)))
    return tuple(pairs)


def lateness(weights, arrivals, schedule):
    """The tuple of the lateness of the packets, in order, as fractions."""
    check_schedule(weights, arrivals, schedule)
    dues = ideal_ends(weights, arrivals)
    return tuple([minus((end, 1), due) for end, due in zip(ends_of(arrivals, schedule), dues)])


def bounds_of(weights, arrivals):
    """The list, for each flow, of the pair of what it is behind and ahead by at most on a close line."""
    whole = sum(weights)
    most = (longest(weights, arrivals), 1)
    own = [longest_of(arrivals, flow) for flow in range(len(weights))]
    return [(most, fraction(length * (whole - weight), whole)) for length, weight in zip(own, weights)]


def fault_of(bounds, amount):
    """The word of what a flow is by too much, if it is behind by the amount, None if the bounds allow this."""
    behind, ahead = bounds
    if is_below(behind, amount):
        return "behind"
    if is_below(ahead, times(amount, -1)):
        return "ahead"
    return None


def fault_at(weights, arrivals, schedule, flow, moment):
    """The word of what the flow is by too much at the moment, None if there is no such thing."""
    tags, legs = tags_and_legs(weights, arrivals)
    amounts = behind_at(weights, arrivals, schedule, tags, legs, moment)
    return fault_of(bounds_of(weights, arrivals)[flow], amounts[flow])


def late_ones(weights, arrivals, schedule):
    """The ascending list of the numbers of the packets whose lateness is above the longest length."""
    most = (longest(weights, arrivals), 1)
    return [number for number, late in enumerate(lateness(weights, arrivals, schedule)) if is_below(most, late)]


def judge_close(weights, arrivals, schedule):
    """A certificate that the schedule is close, or one that it is not."""
    check_schedule(weights, arrivals, schedule)
    late = late_ones(weights, arrivals, schedule)
    if late:
        return "late", late[0]
    bounds = bounds_of(weights, arrivals)
    for moment, amounts in behind_at_turns(weights, arrivals, schedule):
        for flow, amount in enumerate(amounts):
            word = fault_of(bounds[flow], amount)
            if word is not None:
                return word, flow, moment
    return ("close",)


def close_holds(weights, arrivals, schedule, thing):
    """Whether any value is a certificate for the schedule."""
    check_schedule(weights, arrivals, schedule)
    if has_form(thing, "close", 1):
        return is_close(weights, arrivals, schedule)
    if has_form(thing, "late", 2):
        return is_position(thing[1], len(arrivals)) and thing[1] in late_ones(weights, arrivals, schedule)
    if has_form(thing, "behind", 3) or has_form(thing, "ahead", 3):
        word, flow, moment = thing
        if not is_flow(weights, flow) or not is_from_zero(moment):
            return False
        return fault_at(weights, arrivals, schedule, flow, moment) == word
    return False


def is_close(weights, arrivals, schedule):
    """Whether the schedule is close."""
    return judge_close(weights, arrivals, schedule) == ("close",)
