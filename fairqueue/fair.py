"""The fair rule, which sends whole packets close to the ideal line."""

from fairqueue.clock import clock_at, tags_and_legs
from fairqueue.flows import check_arrivals
from fairqueue.kinds import check_moment, is_below, ranks


def eligible_at(arrivals, tags, legs, moment):
    """The ascending list of the numbers of the packets that are eligible at the moment, started or not."""
    value = clock_at(legs, moment)
    numbers = []
    for number, (whole, _, _) in enumerate(arrivals):
        begin, _ = tags[number]
        if not is_below(moment, (whole, 1)) and not is_below(value, begin):
            numbers.append(number)
    return numbers


def schedule(weights, arrivals):
    """The schedule of the fair rule, the tuple of the pairs (number, start) in the order of starts."""
    check_arrivals(weights, arrivals)
    tags, legs = tags_and_legs(weights, arrivals)
    places = ranks([end for _, end in tags])
    waiting = list(range(len(arrivals)))
    pairs = []
    free = 0
    while waiting:
        # Moments do not descend, so the first one that is left has the least.
        start = max(free, arrivals[waiting[0]][0])
        ready = [number for number in eligible_at(arrivals, tags, legs, (start, 1)) if number in waiting]
        _, _, chosen = min([(places[number], arrivals[number][1], number) for number in ready])
        pairs.append((chosen, start))
        waiting.remove(chosen)
        free = start + arrivals[chosen][2]
    return tuple(pairs)


def eligible(weights, arrivals, moment):
    """The ascending tuple of the numbers of the packets that are eligible at the moment, started or not."""
    check_arrivals(weights, arrivals)
    check_moment(moment)
    tags, legs = tags_and_legs(weights, arrivals)
    return tuple(eligible_at(arrivals, tags, legs, moment))
