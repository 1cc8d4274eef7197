"""Admission of calls, each of which wishes that no packet of it waits too long."""

from fairqueue.errors import BadCalls
from fairqueue.kinds import check_number, has_form, is_below, is_from_one, is_position
from fairqueue.waits import bound_of


def is_call(thing):
    """Whether any value is a call."""
    return isinstance(thing, tuple) and len(thing) == 3 and all([is_from_one(part) for part in thing])


def are_calls(thing):
    """Whether any value is calls."""
    return isinstance(thing, tuple) and all([is_call(call) for call in thing])


def check_calls(calls, longest):
    """Raise BadCalls or BadNumber if one of the values is not of its kind."""
    if not are_calls(calls):
        raise BadCalls(calls)
    check_number(longest)


def promises(calls, longest):
    """The tuple of the promises of the calls, as fractions."""
    check_calls(calls, longest)
    whole = sum([weight for weight, _, _ in calls])
    return tuple([bound_of(whole, weight, burst, longest) for weight, burst, _ in calls])


def ones_out(calls, longest):
    """The ascending list of the positions of the calls whose promise is above their wish."""
    found = []
    for at, promise in enumerate(promises(calls, longest)):
        _, _, wish = calls[at]
        if is_below((wish, 1), promise):
            found.append(at)
    return found


def judge_calls(calls, longest):
    """A certificate that the promise of each call is at most its wish, or one that this is not so."""
    out = ones_out(calls, longest)
    if out:
        return "out", out[0]
    return ("in",)


def calls_holds(calls, longest, thing):
    """Whether any value is a certificate for the calls and longest."""
    out = ones_out(calls, longest)
    if has_form(thing, "in", 1):
        return not out
    return has_form(thing, "out", 2) and is_position(thing[1], len(calls)) and thing[1] in out


def admitted(calls, longest):
    """The ascending tuple of the positions of the calls that are admitted, one after the other."""
    check_calls(calls, longest)
    taken = []
    for at in range(len(calls)):
        if not ones_out(tuple([calls[each] for each in taken + [at]]), longest):
            taken.append(at)
    return tuple(taken)
