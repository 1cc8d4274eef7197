"""Weights, flows and the packets that arrive for them."""

from fairqueue.errors import BadArrivals, BadFlow, BadWeights
from fairqueue.kinds import fraction, is_whole


def is_weights(thing):
    """Whether any value is weights."""
    if not isinstance(thing, tuple) or len(thing) == 0:
        return False
    return all([is_whole(weight) and weight >= 1 for weight in thing])


def is_flow(weights, thing):
    """Whether any value is a flow of the weights."""
    return is_whole(thing) and 0 <= thing < len(weights)


def is_packet(weights, thing):
    """Whether any value is a packet of a flow of the weights."""
    if not isinstance(thing, tuple) or len(thing) != 3:
        return False
    moment, flow, length = thing
    if not is_whole(moment) or not is_whole(length):
        return False
    return moment >= 0 and is_flow(weights, flow) and length >= 1


def is_arrivals(weights, thing):
    """Whether any value is arrivals for the weights."""
    check_weights(weights)
    if not isinstance(thing, tuple):
        return False
    if not all([is_packet(weights, packet) for packet in thing]):
        return False
    moments = [moment for moment, _, _ in thing]
    return moments == sorted(moments)


def check_weights(weights):
    """Raise BadWeights if the value is not weights."""
    if not is_weights(weights):
        raise BadWeights(weights)


def check_arrivals(weights, arrivals):
    """Raise BadWeights or BadArrivals if one of the values is not of its kind."""
    if not is_arrivals(weights, arrivals):
        raise BadArrivals(arrivals)


def check_flow(weights, flow):
    """Raise BadFlow if the value is not a flow of the weights."""
    if not is_flow(weights, flow):
        raise BadFlow(flow)


def share(weights, flow):
    """The share of the flow, a fraction."""
    check_weights(weights)
    check_flow(weights, flow)
    return fraction(weights[flow], sum(weights))


def longest(weights, arrivals):
    """The greatest length of all packets, 0 if there are none."""
    check_arrivals(weights, arrivals)
    return max([length for _, _, length in arrivals], default=0)


def own_longest(weights, arrivals, flow):
    """The greatest length of the packets of the flow, 0 if there are none."""
    check_arrivals(weights, arrivals)
    check_flow(weights, flow)
    return max([length for _, owner, length in arrivals if owner == flow], default=0)
