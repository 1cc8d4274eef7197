"""What the tests share: values of many kinds, and calls that must raise."""

import copy

from fairqueue import errors

ERRORS_WITH_THING = (
    "BadWeights",
    "BadArrivals",
    "BadMoment",
    "BadFlow",
    "BadSchedule",
    "BadBucket",
    "BadNumber",
    "BadRule",
    "BadRow",
    "BadPackets",
    "BadCalls",
    "BadState",
)

BIG = 10**40 - 1

TWO = (2, 1)
SOME = ((0, 0, 2), (0, 1, 2), (1, 0, 2))

# Values that are neither weights nor arrivals nor flows of any weights.
STRANGE = (
    None,
    True,
    False,
    "",
    "0",
    "weights 2 1",
    [],
    [2, 1],
    [0],
    [(0, 0, 2)],
    {},
    {0: 2},
    {"weights": TWO},
    -1,
    -BIG,
    BIG,
    (None,),
    (True,),
    (False,),
    ("2",),
    ([],),
    ((),),
    ({},),
    (-1,),
    (0,),
    ((((((((),),),),),),),),
)

NOT_WEIGHTS = STRANGE + (
    (),
    0,
    1,
    3,
    "21",
    (2, 0),
    (0, 2),
    (2, -1),
    (-BIG,),
    (2, True),
    (True, 2),
    (2, False),
    (2, None),
    (2, "1"),
    (2, (1,)),
    (2, [1]),
    ((2, 1),),
    [1],
    ["2"],
    {2: 1, 1: 2},
)

# None of these is arrivals for TWO; each has one thing wrong.
NOT_ARRIVALS = STRANGE + (
    (0, 0, 2),
    ((0, 0),),
    ((0, 0, 2, 2),),
    ((0,),),
    [(0, 0, 2), (0, 1, 2)],
    ([0, 0, 2],),
    ((0, 0, 2), [0, 1, 2]),
    ((0, 0, 0),),
    ((0, 0, -2),),
    ((0, 0, -BIG),),
    ((-1, 0, 2),),
    ((-BIG, 0, 2),),
    ((0, 2, 2),),
    ((0, -1, 2),),
    ((0, -2, 2),),
    ((0, BIG, 2),),
    ((False, 0, 2),),
    ((True, 0, 2),),
    ((0, False, 2),),
    ((0, True, 2),),
    ((0, 0, True),),
    ((0, 0, False),),
    (("0", 0, 2),),
    ((0, "0", 2),),
    ((0, 0, "2"),),
    ((None, 0, 2),),
    ((0, None, 2),),
    ((0, 0, None),),
    (((0,), 0, 2),),
    ((0, (0,), 2),),
    ((0, 0, (2,)),),
    ("002",),
    ("abc", (0, 0, 2)),
    ({0: 0, 1: 0, 2: 2},),
    ((1, 0, 2), (0, 0, 2)),
    ((1, 0, 2), (0, 1, 2)),
    ((0, 0, 2), (5, 1, 2), (4, 0, 2)),
    ((0, 0, 2), (5, 1, 2), (4, 0, 2), (6, 0, 2)),
    ((BIG, 0, 2), (BIG - 1, 0, 2)),
    SOME[::-1],
    SOME + ((1, 2, 1),),
    SOME + ((1, 0, 0),),
    SOME + (None,),
    SOME + ((),),
    ((0, 2, 1),) + SOME,
)

ARRIVALS = (
    (),
    SOME,
    ((0, 0, 1),),
    ((0, 1, 1),),
    ((3, 1, 2), (3, 1, 2)),
    ((3, 1, 2), (3, 0, 2), (3, 1, 1)),
    ((0, 0, 60), (2000, 1, 1)),
    ((BIG, 0, BIG), (BIG, 1, 1)),
    ((0, 0, 1),) * 31,
    tuple([(moment, moment % 2, 61) for moment in range(2001, 2041)]),
)

NOT_FLOWS = STRANGE + (2, 3, -2, (1,), "1", [1], {1: 1})


def caught(call, /, *values, **named):
    """The error of the package that the call raises, after a look that it changed nothing passed."""
    passed = (values, named)
    before = copy.deepcopy(passed)
    try:
        result = call(*values, **named)
    except errors.FairError as error:
        if not same(passed, before):
            raise AssertionError(f"{call.__name__} changed what was passed: {before!r}") from error
        return error
    raise AssertionError(f"{call.__name__}{values!r}{named!r} returned {result!r}")


def unchanged(call, *values):
    """The result of the call, after a look that it changed nothing passed."""
    before = copy.deepcopy(values)
    result = call(*values)
    if not same(values, before):
        raise AssertionError(f"{call.__name__} changed what was passed: {before!r}")
    return result


def same(left, right):
    """Whether two values are equal in their kinds too, so that 1 is not True."""
    return repr(left) == repr(right)
