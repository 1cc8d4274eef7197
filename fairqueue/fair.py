"""The fair rule, which sends whole packets close to the ideal line."""

from fairqueue.clock import clock_at, tags_and_legs
from fairqueue.flows import check_arrivals
from fairqueue.kinds import check_moment, is_below
from fairqueue.serving import first_by_ends, served, turns_by_ends


def arrived(arrivals, moment):
    """The ascending list of the numbers of the packets that have arrived until the moment."""
    return [number for number, (whole, _, _) in enumerate(arrivals) if not is_below(moment, (whole, 1))]


def begun(tags, value, numbers):
    """The list of those of the numbers whose packets have a begin tag that is at most the value of the clock."""
    return [number for number in numbers if not is_below(value, tags[number][0])]


def schedule(weights, arrivals):
    """The schedule of the fair rule, the tuple of the pairs (number, start) in the order of starts."""
    check_arrivals(weights, arrivals)
    tags, legs = tags_and_legs(weights, arrivals)
    turns = turns_by_ends(arrivals, tags)

    def choose(waiting, start, _):
        return first_by_ends(turns, begun(tags, clock_at(legs, (start, 1)), waiting))

    return served(arrivals, choose)


def eligible(weights, arrivals, moment):
    """The ascending tuple of the numbers of the packets that are eligible at the moment, started or not."""
    check_arrivals(weights, arrivals)
    check_moment(moment)
    tags, legs = tags_and_legs(weights, arrivals)
    return tuple(begun(tags, clock_at(legs, moment), arrived(arrivals, moment)))
