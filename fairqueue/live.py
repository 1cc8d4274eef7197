"""A line that runs: packets arrive, time goes on, and it can be stopped and continued anywhere."""

from fairqueue.errors import BadMoment, BadState
from fairqueue.fair import schedule
from fairqueue.flows import check_flow, check_weights, is_arrivals, is_weights
from fairqueue.kinds import check_number, is_whole
from fairqueue.schedules import are_pairs


def started(weights, arrivals, begin, end):
    """The tuple of the pairs of the schedule of the fair rule whose start is from begin on and below end."""
    # What arrives from end on changes none of them, so they never need to be kept.
    return tuple([pair for pair in schedule(weights, arrivals) if begin <= pair[1] < end])


class Line:
    """A line that sends by the fair rule; what it holds is its weights, the arrivals until now, and now."""

    def __init__(self, weights):
        check_weights(weights)
        self._weights = weights
        self._arrivals = ()
        self._now = 0

    def arrive(self, flow, length):
        """Let a packet arrive now, and return its number."""
        check_flow(self._weights, flow)
        check_number(length)
        self._arrivals = self._arrivals + ((self._now, flow, length),)
        return len(self._arrivals) - 1

    def go(self, moment):
        """Go on to the moment, and return the tuple of the pairs (number, start) from the old now to before it."""
        if not is_whole(moment) or moment < self._now:
            raise BadMoment(moment)
        begin = self._now
        self._now = moment
        return started(self._weights, self._arrivals, begin, moment)

    def now(self):
        """The moment at which the line is."""
        return self._now

    def waiting(self):
        """The ascending tuple of the numbers of the packets that have not been started before now."""
        gone = [number for number, _ in started(self._weights, self._arrivals, 0, self._now)]
        return tuple([number for number in range(len(self._arrivals)) if number not in gone])

    def state(self):
        """The state of the line, by which it can be continued."""
        starts = started(self._weights, self._arrivals, 0, self._now)
        return self._weights, self._arrivals, starts, self._now


def is_state(thing):
    """Whether any value is a state of a line."""
    if not isinstance(thing, tuple) or len(thing) != 4:
        return False
    weights, arrivals, starts, now = thing
    if not is_weights(weights) or not is_arrivals(weights, arrivals) or not is_whole(now):
        return False
    # Without packets now is from 0 on all the same.
    last = max([moment for moment, _, _ in arrivals], default=0)
    if now < last:
        return False
    # A bool is equal to an integer, so equality alone would let it in.
    return are_pairs(starts) and starts == started(weights, arrivals, 0, now)


def continued(state):
    """A new line with the state."""
    if not is_state(state):
        raise BadState(state)
    weights, arrivals, _, now = state
    line = Line(weights)
    line._arrivals = arrivals
    line._now = now
    return line
