"""What the tests share: values of many kinds, calls that must raise, and a reckoning of the ideal line."""

import math
import random
from fractions import Fraction

from fairqueue import errors
from fairqueue.live import Line

ERRORS_WITH_THING = (
    "BadWeights",
    "BadArrivals",
    "BadMoment",
    "BadFlow",
    "BadSchedule",
    "BadBucket",
    "BadNumber",
    "BadRule",
    "BadRow",
    "BadPackets",
    "BadCalls",
    "BadState",
)

BIG = 10**40 - 1

TWO = (2, 1)
SOME = ((0, 0, 2), (0, 1, 2), (1, 0, 2))

LINE = Line(TWO)
LINE.arrive(0, 2)
LINE.go(1)
LINE.arrive(1, 1)

# Values that are neither weights nor arrivals nor flows of any weights.
STRANGE = (
    LINE,
    [LINE],
    (LINE,),
    (LINE, LINE),
    {"line": LINE},
    {LINE: [(LINE, {0: LINE})]},
    None,
    True,
    False,
    "",
    "0",
    "weights 2 1",
    [],
    [2, 1],
    [0],
    [(0, 0, 2)],
    {},
    {0: 2},
    {"weights": TWO},
    -1,
    -BIG,
    BIG,
    (None,),
    (True,),
    (False,),
    ("2",),
    ([],),
    ((),),
    ({},),
    (-1,),
    (0,),
    ((((((((),),),),),),),),
)

NOT_WEIGHTS = STRANGE + (
    (),
    0,
    1,
    3,
    "21",
    (2, 0),
    (0, 2),
    (2, -1),
    (-BIG,),
    (2, True),
    (True, 2),
    (2, False),
    (2, None),
    (2, "1"),
    (2, (1,)),
    (2, [1]),
    ((2, 1),),
    [1],
    ["2"],
    {2: 1, 1: 2},
    (2, LINE),
    (2, (LINE,)),
    (2, {1: [LINE]}),
)

# None of these is arrivals for TWO; each has one thing wrong.
NOT_ARRIVALS = STRANGE + (
    (0, 0, 2),
    ((0, 0),),
    ((0, 0, 2, 2),),
    ((0,),),
    [(0, 0, 2), (0, 1, 2)],
    ([0, 0, 2],),
    ((0, 0, 2), [0, 1, 2]),
    ((0, 0, 0),),
    ((0, 0, -2),),
    ((0, 0, -BIG),),
    ((-1, 0, 2),),
    ((-BIG, 0, 2),),
    ((0, 2, 2),),
    ((0, -1, 2),),
    ((0, -2, 2),),
    ((0, BIG, 2),),
    ((False, 0, 2),),
    ((True, 0, 2),),
    ((0, False, 2),),
    ((0, True, 2),),
    ((0, 0, True),),
    ((0, 0, False),),
    (("0", 0, 2),),
    ((0, "0", 2),),
    ((0, 0, "2"),),
    ((None, 0, 2),),
    ((0, None, 2),),
    ((0, 0, None),),
    (((0,), 0, 2),),
    ((0, (0,), 2),),
    ((0, 0, (2,)),),
    ("002",),
    ("abc", (0, 0, 2)),
    ({0: 0, 1: 0, 2: 2},),
    ((1, 0, 2), (0, 0, 2)),
    ((1, 0, 2), (0, 1, 2)),
    ((0, 0, 2), (5, 1, 2), (4, 0, 2)),
    ((0, 0, 2), (5, 1, 2), (4, 0, 2), (6, 0, 2)),
    ((BIG, 0, 2), (BIG - 1, 0, 2)),
    SOME[::-1],
    SOME + ((1, 2, 1),),
    SOME + ((1, 0, 0),),
    SOME + (None,),
    SOME + ((),),
    ((0, 2, 1),) + SOME,
    SOME + (LINE,),
    ((LINE, 0, 2),),
    ((0, LINE, 2),),
    ((0, 0, LINE),),
    ((0, 0, [LINE]),),
)

ARRIVALS = (
    (),
    SOME,
    ((0, 0, 1),),
    ((0, 1, 1),),
    ((3, 1, 2), (3, 1, 2)),
    ((3, 1, 2), (3, 0, 2), (3, 1, 1)),
    ((0, 0, 60), (2000, 1, 1)),
    ((BIG, 0, BIG), (BIG, 1, 1)),
    ((0, 0, 1),) * 31,
    tuple([(moment, moment % 2, 61) for moment in range(2001, 2041)]),
)

NOT_FLOWS = STRANGE + (2, 3, -2, (1,), "1", [1], {1: 1})


def caught(call, /, *values, **named):
    """The error of the package that the call raises, after a look that it changed nothing passed."""
    before = shown((values, named))
    try:
        result = call(*values, **named)
    except errors.FairError as error:
        if shown((values, named)) != before:
            raise AssertionError(f"{call.__name__} changed what was passed: {before}") from error
        return error
    raise AssertionError(f"{call.__name__}{values!r}{named!r} returned {result!r}")


def unchanged(call, *values):
    """The result of the call, after a look that it changed nothing passed."""
    before = shown(values)
    result = call(*values)
    if shown(values) != before:
        raise AssertionError(f"{call.__name__} changed what was passed: {before}")
    return result


def shown(value):
    """The value as a text, in which each line shows which one it is and its state."""
    if isinstance(value, Line):
        return f"line {id(value)} with {value.state()!r}"
    if isinstance(value, (tuple, list)):
        return type(value).__name__ + str([shown(part) for part in value])
    if isinstance(value, dict):
        return "dict" + str([(shown(key), shown(part)) for key, part in value.items()])
    return repr(value)


def same(left, right):
    """Whether two values are equal in their kinds too, so that 1 is not True."""
    return repr(left) == repr(right)


# None of these is a fraction from 0 on; each has one thing wrong.
NOT_FRACTIONS = STRANGE + (
    0,
    1,
    2,
    (),
    (1,),
    (1, 1, 1),
    (2, 1, 1),
    (2, 2),
    (2, 4),
    (6, 4),
    (0, 2),
    (0, 7),
    (10**140, 10**139),
    (0, 0),
    (1, 0),
    (5, 0),
    (1, -1),
    (0, -1),
    (-1, -1),
    (3, -2),
    (-1, 1),
    (-1, 2),
    (-BIG, 1),
    (-(10**140), 1),
    [1, 1],
    [0, 1],
    [1, 2],
    "12",
    ("1", 2),
    (1, "2"),
    (True, 1),
    (False, 1),
    (1, True),
    (0, True),
    (3, True),
    (True, True),
    (True, 2),
    (None, 1),
    (1, None),
    ((1,), 2),
    (1, (2,)),
    ([1], 2),
    {1: 1, 2: 2},
    ((1, 2),),
    ((1, 2), (1, 2)),
    (1, LINE),
    (LINE, 1),
    (1, [LINE]),
)

# Arrivals for other weights than TWO only.
FOR_OTHERS = (
    ((0, 2, 2),),
    ((0, BIG, 2),),
    SOME + ((1, 2, 1),),
    ((0, 2, 1),) + SOME,
)
# None of these is arrivals for any weights.
NOT_ARRIVALS_FOR_SOME = tuple([thing for thing in NOT_ARRIVALS if thing not in FOR_OTHERS])

# None of these is an integer from 0 on, or from 1 on.
NOT_FLOWS_OF_SOME = tuple([thing for thing in STRANGE if thing is not BIG]) + (-2, (1,), "1", [1], {1: 1}, (0, 1))
NOT_NUMBERS = NOT_FLOWS_OF_SOME + (0, -7, (1, 1), (7, 2), "7")

# None of these is a bucket.
NOT_BUCKETS = STRANGE + (
    (),
    0,
    1,
    (3,),
    (3, 1, 2),
    (3, 1),
    (3, (1, 2), 0),
    (0, (1, 2)),
    (-3, (1, 2)),
    (3, (0, 1)),
    (3, (-1, 2)),
    (3, (1, -2)),
    (3, (2, 4)),
    (3, (1, 0)),
    (3, (0, 0)),
    (3, (1,)),
    (3, (1, 2, 1)),
    (3, [1, 2]),
    [3, (1, 2)],
    [3, [1, 2]],
    {3: (1, 2)},
    (True, (1, 2)),
    (False, (1, 2)),
    (3, (True, 2)),
    (3, (1, True)),
    ("3", (1, 2)),
    (3, "12"),
    (3, ("1", 2)),
    (3, (1, None)),
    (None, (1, 2)),
    (3, None),
    ((3,), (1, 2)),
    ((1, 2), 3),
    ((3, 1), (1, 2)),
    ((3, (1, 2)),),
    (LINE, (1, 2)),
    (3, LINE),
    (3, (1, LINE)),
    (3, (LINE, 2)),
)

FRACTIONS = ((0, 1), (1, 1), (1, 2), (7, 3), (9, 1), (10**140, 1), (1, 10**140), (10**140, 10**140 - 1))

# The schedules of the document's examples, for TWO and SOME.
FAIR = ((0, 0), (1, 2), (2, 4))
SLOW = ((0, 0), (2, 3), (1, 5))

# None of these is a schedule of SOME for TWO; each has one thing wrong.
NOT_SCHEDULES = STRANGE + (
    (),
    0,
    1,
    (0, 0),
    FAIR[:1],
    FAIR[:2],
    FAIR[1:],
    FAIR[::-1],
    FAIR + ((2, 6),),
    FAIR + ((3, 6),),
    FAIR + ((-1, 6),),
    FAIR + (None,),
    FAIR + ((),),
    list(FAIR),
    [list(pair) for pair in FAIR],
    dict(FAIR),
    (FAIR,),
    ([0, 0], (1, 2), (2, 4)),
    ((0, 0), (1, 2), [2, 4]),
    ((0, 0), (1, 1), (2, 4)),
    ((0, 0), (1, 2), (2, 3)),
    ((0, -1), (1, 2), (2, 4)),
    ((0, -BIG), (1, 2), (2, 4)),
    ((2, 0), (0, 2), (1, 4)),
    ((0, 0), (2, 0), (1, 4)),
    ((0, 0), (0, 2), (2, 4)),
    ((0, 0), (1, 2), (1, 4)),
    ((0, 0), (1, 2), (3, 4)),
    ((0, 0), (1, 2), (-1, 4)),
    ((0, 0), (1, 2), (BIG, 4)),
    ((0, 0), (-2, 2), (2, 4)),
    ((1, 0), (2, 2), (3, 4)),
    ((0, 0), (1, 2), (2,)),
    ((0, 0), (1, 2), (2, 4, 0)),
    ((0,), (1, 2), (2, 4)),
    ((0, 0, 0), (1, 2), (2, 4)),
    ((False, 0), (1, 2), (2, 4)),
    ((0, False), (1, 2), (2, 4)),
    ((0, 0), (True, 2), (2, 4)),
    ((True, 2), (0, 4), (2, 6)),
    ((0, 0), (1, True), (2, 4)),
    ((0, 0), ("1", 2), (2, 4)),
    ((0, 0), (1, "2"), (2, 4)),
    ((0, 0), (1, None), (2, 4)),
    ((0, 0), (None, 2), (2, 4)),
    ((0, 0), ((1,), 2), (2, 4)),
    ((0, 0), (1, (2, 1)), (2, 4)),
    ("00", "12", "24"),
    ((0, 0), LINE, (2, 4)),
    ((0, 0), (LINE, 2), (2, 4)),
    ((0, 0), (1, LINE), (2, 4)),
    ((0, 0), (1, 2), (2, [LINE])),
)

# Pairs of weights and arrivals: the edges that the document names.
EDGES = (
    (TWO, SOME),
    (TWO, ()),
    ((7,), ()),
    ((1, 1, 1), ((4, 2, 3),)),
    ((5,), ((0, 0, 3),)),
    ((5,), ((2, 0, 3), (2, 0, 1), (3, 0, 4), (20, 0, 1))),
    # Several packets at one moment, in no order of their flows.
    ((2, 1, 3), ((3, 2, 4), (3, 0, 1), (3, 2, 5), (3, 1, 2), (3, 0, 6))),
    # Idle stretches, at the beginning and between.
    (TWO, ((5, 1, 1), (9, 0, 4), (9, 1, 1), (30, 1, 2), (31, 0, 2))),
    # Stretches that touch: a packet arrives at the very end of all before it.
    (TWO, ((0, 0, 2), (0, 1, 2), (4, 0, 3), (7, 1, 1))),
    (TWO, ((1, 1, 2), (3, 1, 2), (5, 0, 1), (7, 0, 1))),
    # One more unit of time, and they no longer touch.
    (TWO, ((0, 0, 2), (0, 1, 2), (5, 0, 3), (9, 1, 1))),
    # A flow ceases to wait at the very moment at which it is sent a packet.
    ((1, 1), ((0, 0, 2), (0, 1, 4), (4, 0, 1))),
    # A flow is idle while the line is busy, and comes back.
    ((1, 3), ((0, 0, 30), (0, 1, 3), (20, 1, 3), (21, 0, 2), (25, 1, 1))),
    # Flows without packets.
    ((4, 9, 2, 11, 12), ((0, 2, 3), (1, 2, 1), (1, 3, 7))),
    # Ties of end tags between flows and within one.
    ((1, 1, 1), ((0, 2, 2), (0, 1, 2), (0, 0, 2), (1, 0, 1), (1, 1, 1))),
    ((2, 2, 1), ((0, 1, 4), (0, 0, 4), (0, 2, 2), (2, 1, 2), (2, 0, 2))),
    # The greatest that the limits allow, and somewhat more.
    ((12, 11, 10, 9, 8, 7, 6, 5), tuple([(number // 3, number % 8, 60 - number) for number in range(30)])),
    ((13, 1) * 5, tuple([(7 * number, number * 7 % 10, number % 62 + 1) for number in range(40)])),
    ((1, 12), ((1999, 0, 60), (2000, 1, 60), (2000, 0, 1))),
)


def chance_cases(seed, many, flows=4, packets=9):
    """Pairs of weights and arrivals, always the same ones for a seed."""
    source = random.Random(seed)
    cases = []
    for _ in range(many):
        weights = tuple([source.randint(1, 5) for _ in range(source.randint(1, flows))])
        gap, longest = source.randint(0, 6), source.randint(1, 6)
        moment, arrivals = source.randint(0, 3), []
        for _ in range(source.randint(0, packets)):
            arrivals.append((moment, source.randrange(len(weights)), source.randint(1, longest)))
            moment += source.choice((0, 0, 1, gap))
        cases.append((weights, tuple(arrivals)))
    return tuple(cases)


CASES = EDGES + chance_cases(1989, 60)


def number_of(pair):
    """The pair as a Fraction, after a look that it is a fraction as the document wants it."""
    if type(pair) is not tuple or [type(part) for part in pair] != [int, int]:
        raise AssertionError(f"{pair!r} is no pair of integers")
    if pair[1] <= 0 or math.gcd(*pair) != 1:
        raise AssertionError(f"{pair!r} is not in lowest terms")
    return Fraction(*pair)


def pair_of(number):
    """The number as a fraction of the document."""
    return Fraction(number).numerator, Fraction(number).denominator


class Reckoning:
    """The ideal line from event to event: amounts that are left, not tags, and Python's own fractions."""

    def __init__(self, weights, arrivals):
        self.weights = weights
        self.ends = [None for _ in arrivals]
        self.clocks = [None for _ in arrivals]
        self.states = []
        coming, queues = list(enumerate(arrivals)), [[] for _ in weights]
        moment, value, given = Fraction(0), Fraction(0), [Fraction(0) for _ in weights]
        while True:
            while coming and coming[0][1][0] == moment:
                number, (_, flow, length) = coming.pop(0)
                queues[flow].append([number, Fraction(length)])
                self.clocks[number] = value
            waiting = [flow for flow, queue in enumerate(queues) if queue]
            self.states.append((moment, value, tuple(given), tuple(waiting)))
            whole = sum([weights[flow] for flow in waiting])
            events = [queues[flow][0][1] * whole / weights[flow] for flow in waiting]
            events += [packet[0] - moment for _, packet in coming[:1]]
            if not events:
                return
            step = min(events)
            moment += step
            value += step / whole if waiting else 0
            for flow in waiting:
                amount = step * weights[flow] / whole
                given[flow] += amount
                queues[flow][0][1] -= amount
                if queues[flow][0][1] == 0:
                    self.ends[queues[flow].pop(0)[0]] = moment

    def at(self, moment):
        """The pair of the clock and what each flow has been given, at the moment."""
        begun, value, given, waiting = [state for state in self.states if state[0] <= moment][-1]
        whole = sum([self.weights[flow] for flow in waiting])
        if not waiting:
            return value, given
        amounts = list(given)
        for flow in waiting:
            amounts[flow] += (moment - begun) * self.weights[flow] / whole
        return value + (moment - begun) / whole, tuple(amounts)

    def events(self):
        """The moments at which a packet arrives or has been given whole."""
        return [state[0] for state in self.states]

    def tags(self, arrivals):
        """The pairs of tags, by the words of [3.2] and the clock of this reckoning."""
        finals, pairs = [Fraction(0) for _ in self.weights], []
        for (_, flow, length), value in zip(arrivals, self.clocks):
            begin = max(value, finals[flow])
            finals[flow] = begin + Fraction(length, self.weights[flow])
            pairs.append((begin, finals[flow]))
        return pairs


def by_the_rule(weights, arrivals):
    """The schedule, choice by choice as [4.2] says it, by the clock of the reckoning."""
    reckoning = Reckoning(weights, arrivals)
    pairs = reckoning.tags(arrivals)
    started, free = [], 0
    while len(started) < len(arrivals):
        left = [number for number in range(len(arrivals)) if number not in dict(started)]
        start = max(free, min([arrivals[number][0] for number in left]))
        value = reckoning.at(start)[0]
        waiting = [number for number in left if arrivals[number][0] <= start]
        ready = [number for number in waiting if pairs[number][0] <= value]
        chosen = sorted(ready, key=lambda number: (pairs[number][1], arrivals[number][1], number))[0]
        started.append((chosen, start))
        free = start + arrivals[chosen][2]
    return tuple(started)


def moments_of(reckoning):
    """Moments worth a look: the events, a little before and behind them, between them, and far behind."""
    events = sorted(set(reckoning.events()))
    tiny = Fraction(1, 10**30)
    moments = [Fraction(0), Fraction(1, 10**140), events[-1] + 1, events[-1] + Fraction(10**140, 7)]
    for event in events:
        moments += [event, event + tiny, max(event - tiny, Fraction(0))]
    for first, second in zip(events, events[1:]):
        moments += [(first + second) / 2, (3 * first + 4 * second) / 7]
    return sorted(set(moments))


def in_order(arrivals, order, pauses):
    """The schedule that starts the packets in the order, each one after the pause, as soon as it may."""
    free, pairs = 0, []
    for number, pause in zip(order, pauses):
        start = max(free, arrivals[number][0]) + pause
        pairs.append((number, start))
        free = start + arrivals[number][2]
    return tuple(pairs)


def made(seed, arrivals):
    """Schedules of the arrivals in many orders, without and with pauses."""
    source = random.Random(seed)
    orders = [list(range(len(arrivals))), list(range(len(arrivals)))[::-1]]
    for _ in range(3):
        orders.append(source.sample(range(len(arrivals)), len(arrivals)))
    none = [0 for _ in arrivals]
    found = [in_order(arrivals, order, none) for order in orders]
    found += [in_order(arrivals, order, [source.choice((0, 0, 1, 7)) for _ in order]) for order in orders]
    return found


def sent_until(weights, arrivals, pairs, moment):
    """What the pairs (number, start) have sent of each flow until the moment, by the words of [5.2]."""
    amounts = [Fraction(0) for _ in weights]
    for number, start in pairs:
        _, flow, length = arrivals[number]
        if start + length <= moment:
            amounts[flow] += length
        elif start <= moment:
            amounts[flow] += moment - start
    return amounts


class Distance:
    """How far a schedule is from the ideal line of the reckoning, at all moments worth a look."""

    def __init__(self, weights, arrivals, pairs):
        self.reckoning = Reckoning(weights, arrivals)
        self.weights, self.arrivals, self.pairs = weights, arrivals, pairs
        ends = {number: start + arrivals[number][2] for number, start in pairs}
        turns = sorted(set(self.reckoning.events() + [start for _, start in pairs] + list(ends.values()) + [0]))
        between = [(2 * Fraction(first) + second) / 3 for first, second in zip(turns, turns[1:])]
        self.moments = sorted([Fraction(moment) for moment in turns] + between + [Fraction(turns[-1] + 1)])
        self.rows = [self.behind(moment) for moment in self.moments]
        self.late = [ends[number] - due for number, due in enumerate(self.reckoning.ends)]

    def behind(self, moment):
        """What each flow is behind by at the moment."""
        given = self.reckoning.at(moment)[1]
        return [left - right for left, right in zip(given, sent_until(self.weights, self.arrivals, self.pairs, moment))]

    def extremes(self):
        """The pair (greatest behind, greatest ahead) of each flow."""
        flows = range(len(self.weights))
        return [(max([row[flow] for row in self.rows]), -min([row[flow] for row in self.rows])) for flow in flows]

    def limits(self, flow):
        """The pair of what the flow may be behind and ahead by on a close line."""
        own = max([length for _, owner, length in self.arrivals if owner == flow], default=0)
        return self.longest(), own * (1 - Fraction(self.weights[flow], sum(self.weights)))

    def longest(self):
        """The greatest length of all packets, 0 if there are none."""
        return max([length for _, _, length in self.arrivals], default=0)

    def is_close(self):
        """Whether the schedule is close."""
        for flow, (behind, ahead) in enumerate(self.extremes()):
            most_behind, most_ahead = self.limits(flow)
            if behind > most_behind or ahead > most_ahead:
                return False
        return all([late <= self.longest() for late in self.late])

    def is_right(self, certificate):
        """Whether a tuple of the form of a certificate is right."""
        word, *rest = certificate
        if word == "close":
            return self.is_close()
        if word == "late":
            return self.late[rest[0]] > self.longest()
        flow, moment = rest
        amount = self.behind(number_of(moment))[flow]
        behind, ahead = self.limits(flow)
        return amount > behind if word == "behind" else -amount > ahead


def exchanged(arrivals, pairs):
    """The schedules with two neighbours of the pairs exchanged, all others in their order."""
    order = [number for number, _ in pairs]
    none = [0 for _ in pairs]
    found = []
    for at in range(len(order) - 1):
        found.append(in_order(arrivals, order[:at] + [order[at + 1], order[at]] + order[at + 2 :], none))
    return found


def flow_by_flow(arrivals):
    """The schedule that sends all packets of a flow before the first one of the next."""
    order = sorted(range(len(arrivals)), key=lambda number: (arrivals[number][1], number))
    return in_order(arrivals, order, [0 for _ in order])


# Near and far kinds of values that are no certificates of any kind.
NO_CERTIFICATES = STRANGE + (
    (),
    0,
    1,
    "close",
    "kept",
    "in",
    ("",),
    ("closed",),
    ("Close",),
    ("clos",),
    ("fair",),
    (0,),
    (0, 0),
    (0, 0, (0, 1)),
    ([], 0),
    ({}, 0, 0),
    (("close",),),
    (["close"],),
    ["close"],
    ["kept"],
    ["in"],
    {"close": 0},
    ("close", "close"),
    ("close", 0),
    ("kept", 0),
    ("in", 0),
    ("close", None),
    ("late",),
    ("behind",),
    ("ahead",),
    ("breaks",),
    ("out",),
    ("late", None),
    ("behind", 0),
    ("ahead", 0),
    ("breaks", 0),
    ("out", None),
    ("close", LINE),
    ("late", LINE),
    ("out", LINE),
    ("out", (LINE,)),
    ("behind", LINE, (1, 1)),
    ("behind", 0, LINE),
    ("ahead", 0, (LINE, 1)),
    ("breaks", 0, LINE),
    ("breaks", [LINE], 0),
)


ROWS = (
    (((2, 1), ((0, 1, 2),)),),
    (((2, 1), ((0, 1, 2),)), ((1, 1), ())),
    (((1,), ()),),
    (((12,), ()), ((5, 5, 5), ((0, 2, 3), (0, 1, 1), (7, 2, 9))), ((1, 12), ((2000, 1, 60),))),
    (((1, 1), ((0, 1, 60),) * 22),) * 4,
    (((3, 1, 2), ((0, 1, 4), (0, 2, 4), (0, 1, 4), (1, 1, 5), (3, 2, 5))),) * 5,
)
SOME_PACKETS = ((), ((0, 2), (1, 2)), ((0, 1),) * 8, ((2, 3), (2, 1), (5, 6), (300, 2)))

# None of these is a row.
NOT_ROWS = STRANGE + (
    (),
    0,
    TWO,
    SOME,
    (TWO,),
    ((),),
    (((), ()),),
    (TWO, ()),
    (TWO, ((0, 1, 2),)),
    ((TWO, ((0, 0, 2),)),),
    ((TWO, ((0, 1, 2), (0, 0, 2))),),
    ((TWO, ()), TWO),
    ((TWO, ()), None),
    ((TWO, ()), ()),
    ((TWO,),),
    ((TWO, (), ()),),
    (((), TWO),),
    [(TWO, ())],
    ([TWO, ()],),
    (([2, 1], ()),),
    ((TWO, []),),
    ((TWO, {}),),
    {TWO: ()},
    (((2, 0), ()),),
    (((2, True), ()),),
    ((TWO, ((0, True, 2),)),),
    ((TWO, ((0, 1, True),)),),
    ((TWO, ((0, 2, 2),)),),
    ((TWO, ((0, -1, 2),)),),
    ((TWO, ((1, 1, 2), (0, 1, 2))),),
    ((TWO, ((0, 1, 0),)),),
    ((TWO, LINE),),
    ((LINE, ()),),
    ((TWO, ()), LINE),
    ((TWO, (LINE,)),),
)

# None of these is packets of the flow 0.
NOT_PACKETS = STRANGE + (
    0,
    1,
    (0, 2),
    ((0,),),
    ((0, 2, 2),),
    ((0, 0, 2),),
    SOME,
    ((0, 0),),
    ((0, -1),),
    ((-1, 2),),
    ((1, 2), (0, 2)),
    ((0, 2), (5, 1), (4, 1)),
    ((0, 2), None),
    ((0, 2), ()),
    [(0, 2)],
    ([0, 2],),
    {0: 2},
    ("02",),
    (("0", 2),),
    ((0, "2"),),
    ((False, 2),),
    ((True, 2),),
    ((0, True),),
    ((None, 2),),
    ((0, None),),
    (((0, 1), 2),),
    ((0, (2, 1)),),
    ((LINE, 2),),
    ((0, LINE),),
    ((0, 2), LINE),
    (((0, 2),),),
)

# None of these is calls.
NOT_CALLS = STRANGE + (
    0,
    1,
    (2, 4, 8),
    ((2, 4),),
    ((2,),),
    ((2, 4, 8, 1),),
    ((0, 4, 8),),
    ((2, 0, 8),),
    ((2, 4, 0),),
    ((-2, 4, 8),),
    ((2, -4, 8),),
    ((2, 4, -BIG),),
    ((True, 4, 8),),
    ((2, True, 8),),
    ((2, 4, True),),
    ((2, 4, False),),
    (("2", 4, 8),),
    ((2, None, 8),),
    ((2, 4, (8, 1)),),
    ([2, 4, 8],),
    [(2, 4, 8)],
    [[2, 4, 8]],
    {2: (4, 8)},
    ({0: 2, 1: 4, 2: 8},),
    ("248",),
    ((2, 4, 8), None),
    ((2, 4, 8), ()),
    ((2, 4, 8), (1, 1)),
    ((2, 4, 8), [1, 1, 5]),
    (((2, 4, 8),),),
    ((LINE, 4, 8),),
    ((2, LINE, 8),),
    ((2, 4, LINE),),
    ((2, 4, 8), LINE),
    ((2, 4, [LINE]),),
)

RULES = ("fair", "ends", "first", "turns")
NOT_RULES = STRANGE + (
    (),
    0,
    1,
    "Fair",
    "fair ",
    " fair",
    "fair\n",
    "FIRST",
    "end",
    "turn",
    "fairends",
    "last",
    ("fair",),
    ["ends"],
    {"first": True},
    RULES,
    ("fair", LINE),
    [("turns", LINE)],
)

STATES = (
    ((1,), (), (), 0),
    (TWO, (), (), 7),
    (TWO, SOME, ((0, 0),), 1),
    (TWO, SOME, ((0, 0),), 2),
    (TWO, SOME, FAIR, 5),
    (TWO, SOME, FAIR, 20000),
    (TWO, SOME[:2], (), 0),
    ((3, 1), ((4, 1, 9),), (), 4),
    ((3, 1), ((4, 1, 9),), ((0, 4),), 5),
)

# None of these is a state; each has one thing wrong.
NOT_STATES = STRANGE + (
    (),
    0,
    TWO,
    SOME,
    (TWO,),
    (TWO, SOME),
    (TWO, SOME, ((0, 0),)),
    (TWO, SOME, ((0, 0),), 1, 1),
    (SOME, TWO, ((0, 0),), 1),
    (TWO, ((0, 0),), SOME, 1),
    (1, ((0, 0),), SOME, TWO),
    [TWO, SOME, ((0, 0),), 1],
    ([2, 1], SOME, ((0, 0),), 1),
    (TWO, list(SOME), ((0, 0),), 1),
    (TWO, SOME, [(0, 0)], 1),
    (TWO, SOME, ([0, 0],), 1),
    (TWO, SOME, ((0, 0),), [1]),
    {0: TWO, 1: SOME, 2: ((0, 0),), 3: 1},
    ((), (), (), 0),
    ((0,), (), (), 0),
    ((2, True), (), (), 0),
    (TWO, ((0, 2, 1),), (), 0),
    (TWO, SOME[::-1], (), 1),
    (TWO, None, (), 0),
    (TWO, (), None, 0),
    (TWO, (), {}, 0),
    (TWO, (), [], 0),
    (TWO, (), "", 0),
    (TWO, (), (), -1),
    (TWO, (), (), -BIG),
    (TWO, (), (), None),
    (TWO, (), (), True),
    (TWO, (), (), False),
    (TWO, (), (), "0"),
    (TWO, (), (), (0, 1)),
    (TWO, (), ((0, 0),), 3),
    (TWO, SOME, (), 0),
    (TWO, SOME, ((0, 0),), 0),
    (TWO, SOME, (), 1),
    (TWO, SOME, ((0, 0),), 3),
    (TWO, SOME, ((0, 0), (1, 2)), 2),
    (TWO, SOME, ((0, 0),), True),
    (TWO, SOME, ((False, 0),), 1),
    (TWO, SOME, ((0, False),), 1),
    (TWO, SOME, ((0, 0), (True, 2)), 3),
    (TWO, SOME, ((1, 0),), 1),
    (TWO, SOME, ((0, 1),), 2),
    (TWO, SOME, ((0, 0, 0),), 1),
    (TWO, SOME, (0, 0), 1),
    (TWO, SOME, ((1, 2), (0, 0)), 3),
    (TWO, SOME, ((0, 0), (0, 0)), 1),
    (TWO, SOME, FAIR, 4),
    (TWO, SOME, FAIR[:2], 5),
    (TWO, SOME, FAIR + ((3, 6),), 9),
    (TWO, SOME, SLOW, 20),
    (TWO, ((5, 0, 1),), (), 4),
    (TWO, ((5, 0, 1),), (), 0),
    (TWO, SOME, ((0, 0),), LINE),
    (LINE, SOME, ((0, 0),), 1),
    (TWO, LINE, (), 1),
    (TWO, (), LINE, 1),
    (TWO, SOME, (LINE,), 1),
    (TWO, SOME, ((0, LINE),), 1),
    (TWO, SOME + (LINE,), ((0, 0),), 1),
)
