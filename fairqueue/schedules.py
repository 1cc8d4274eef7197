"""Schedules of any rule: what they send, and when."""

from fairqueue.errors import BadSchedule
from fairqueue.flows import check_arrivals
from fairqueue.kinds import check_moment, fraction, is_whole


def is_pair(thing):
    """Whether any value is a pair of integers."""
    if not isinstance(thing, tuple) or len(thing) != 2:
        return False
    return is_whole(thing[0]) and is_whole(thing[1])


def has_each_once(arrivals, pairs):
    """Whether the pairs have the number of each packet once."""
    return sorted([number for number, _ in pairs]) == list(range(len(arrivals)))


def are_in_turn(arrivals, pairs):
    """Whether no packet of the pairs is started before its moment or the end of the one before it."""
    free = 0
    for number, start in pairs:
        moment, _, length = arrivals[number]
        if start < max(free, moment):
            return False
        free = start + length
    return True


def are_pairs(thing):
    """Whether any value is a tuple of pairs of integers."""
    return isinstance(thing, tuple) and all([is_pair(pair) for pair in thing])


def is_schedule_of(arrivals, thing):
    """Whether any value is a schedule of the arrivals, whatever the weights are."""
    return are_pairs(thing) and has_each_once(arrivals, thing) and are_in_turn(arrivals, thing)


def is_schedule(weights, arrivals, thing):
    """Whether any value is a schedule of the arrivals."""
    check_arrivals(weights, arrivals)
    return is_schedule_of(arrivals, thing)


def check_schedule_of(arrivals, schedule):
    """Raise BadSchedule if the value is not a schedule of the arrivals."""
    if not is_schedule_of(arrivals, schedule):
        raise BadSchedule(schedule)


def check_schedule(weights, arrivals, schedule):
    """Raise BadWeights, BadArrivals or BadSchedule if one of the values is not of its kind."""
    check_arrivals(weights, arrivals)
    check_schedule_of(arrivals, schedule)


def is_busy(weights, arrivals, schedule):
    """Whether the line never pauses while a packet is waiting."""
    check_schedule(weights, arrivals, schedule)
    free = 0
    for at, (number, start) in enumerate(schedule):
        rest = [arrivals[later][0] for later, _ in schedule[at:]]
        if start != max(free, min(rest)):
            return False
        free = start + arrivals[number][2]
    return True


def ends_of(arrivals, schedule):
    """The tuple of the ends of the packets, in the order of their numbers."""
    return tuple([start + arrivals[number][2] for number, start in sorted(schedule)])


def ends(weights, arrivals, schedule):
    """The tuple of the ends of the packets, in the order of their numbers."""
    check_schedule(weights, arrivals, schedule)
    return ends_of(arrivals, schedule)


def sent_at(weights, arrivals, schedule, moment):
    """The tuple of what the schedule has sent of each flow until the moment, as fractions."""
    top, bottom = moment
    amounts = [0 for _ in weights]
    # Amounts are counted in parts of 1 / bottom, so that they stay integers.
    for number, start in schedule:
        _, flow, length = arrivals[number]
        amounts[flow] += min(max(top - start * bottom, 0), length * bottom)
    return tuple([fraction(amount, bottom) for amount in amounts])


def sent(weights, arrivals, schedule, moment):
    """The tuple of what the schedule has sent of each flow until the moment, as fractions."""
    check_schedule(weights, arrivals, schedule)
    check_moment(moment)
    return sent_at(weights, arrivals, schedule, moment)
