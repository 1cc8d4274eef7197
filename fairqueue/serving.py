"""How a line serves by any rule: whole packets, one after the other, without a pause while one is waiting."""

from fairqueue.kinds import ranks


def served(arrivals, choose):
    """The schedule of the rule whose choices are choose(waiting, start, last).

    It is passed the ascending list of the numbers of the waiting packets, the moment, and the number of the packet
    that was served last, None if none was yet; it returns one of the waiting numbers.
    """
    left = list(range(len(arrivals)))
    pairs = []
    free = 0
    last = None
    while left:
        # Moments do not descend, so the first one that is left has the least.
        start = max(free, arrivals[left[0]][0])
        waiting = [number for number in left if arrivals[number][0] <= start]
        last = choose(waiting, start, last)
        pairs.append((last, start))
        left.remove(last)
        free = start + arrivals[last][2]
    return tuple(pairs)


def turns_by_ends(arrivals, tags):
    """The list of triples (rank of its end tag, flow, number) of the packets, of which the least one goes first."""
    places = ranks([end for _, end in tags])
    return [(places[number], flow, number) for number, (_, flow, _) in enumerate(arrivals)]


def first_by_ends(turns, numbers):
    """The one of the numbers whose packet goes first by the end tags."""
    _, _, number = min([turns[each] for each in numbers])
    return number
