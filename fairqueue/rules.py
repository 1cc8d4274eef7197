"""Other rules than the fair one, and arrivals for which they are far from fair."""

from fairqueue.clock import tags_and_legs
from fairqueue.errors import BadRule
from fairqueue.fair import schedule
from fairqueue.flows import check_arrivals
from fairqueue.kinds import check_number
from fairqueue.serving import first_by_ends, served, turns_by_ends

RULES = ("fair", "ends", "first", "turns")


def by_ends(weights, arrivals):
    """The schedule of the rule that starts the waiting packet with the least end tag, eligible or not."""
    tags, _ = tags_and_legs(weights, arrivals)
    turns = turns_by_ends(arrivals, tags)
    return served(arrivals, lambda waiting, start, last: first_by_ends(turns, waiting))


def by_first(arrivals):
    """The schedule of the rule that starts the waiting packet with the least number."""
    return served(arrivals, lambda waiting, start, last: waiting[0])


def by_turns(weights, arrivals):
    """The schedule of the rule by which the flows that have a waiting packet take turns."""
    many = len(weights)

    def choose(waiting, _, last):
        first = 0 if last is None else arrivals[last][1] + 1
        # The flow served last is many - 1 flows behind the first one to be asked, so it is the last one.
        turns = [((arrivals[number][1] - first) % many, number) for number in waiting]
        return min(turns)[1]

    return served(arrivals, choose)


def schedule_by(rule, weights, arrivals):
    """The schedule of the rule."""
    if rule not in RULES:
        raise BadRule(rule)
    check_arrivals(weights, arrivals)
    if rule == "ends":
        return by_ends(weights, arrivals)
    if rule == "first":
        return by_first(arrivals)
    if rule == "turns":
        return by_turns(weights, arrivals)
    return schedule(weights, arrivals)


def made_ahead(n):
    """Weights and arrivals by which "ends" lets a flow be ahead by n / 2, all lengths being 1."""
    check_number(n)
    # The end tags of the flow 0 are 1 / n to 1, those of the others 1. So all of the flow 0 is sent until n,
    # while half of it is given.
    weights = (n,) + (1,) * n
    own = ((0, 0, 1),) * n
    return weights, own + tuple([(0, flow, 1) for flow in range(1, n + 1)])


def made_behind(n):
    """Weights and arrivals by which "first" lets a flow be behind by n, all lengths being 1."""
    check_number(n)
    # Until n + 1 only the flow 0 is sent, while n of n + 1 parts are given to the flow 1.
    return (1, n), ((0, 0, 1),) * (n + 1) + ((0, 1, 1),) * n
