"""Weights, flows and the packets that arrive for them."""

from fairqueue.errors import BadArrivals, BadFlow, BadWeights
from fairqueue.kinds import do_not_descend, fraction, is_from_one, is_position, is_whole


def is_weights(thing):
    """Whether any value is weights."""
    if not isinstance(thing, tuple) or len(thing) == 0:
        return False
    return all([is_from_one(weight) for weight in thing])


def is_flow(weights, thing):
    """Whether any value is a flow of the weights."""
    return is_position(thing, len(weights))


def is_flow_of_some(thing):
    """Whether any value is a flow of some weights."""
    return is_whole(thing) and thing >= 0


def is_packet_of_some(thing):
    """Whether any value is a packet of a flow of some weights."""
    if not isinstance(thing, tuple) or len(thing) != 3:
        return False
    moment, flow, length = thing
    return is_whole(moment) and moment >= 0 and is_flow_of_some(flow) and is_from_one(length)


def is_arrivals_for_some(thing):
    """Whether any value is arrivals for some weights."""
    if not isinstance(thing, tuple) or not all([is_packet_of_some(packet) for packet in thing]):
        return False
    return do_not_descend([moment for moment, _, _ in thing])


def is_arrivals(weights, thing):
    """Whether any value is arrivals for the weights."""
    check_weights(weights)
    return is_arrivals_for_some(thing) and all([is_flow(weights, flow) for _, flow, _ in thing])


def check_weights(weights):
    """Raise BadWeights if the value is not weights."""
    if not is_weights(weights):
        raise BadWeights(weights)


def check_arrivals(weights, arrivals):
    """Raise BadWeights or BadArrivals if one of the values is not of its kind."""
    if not is_arrivals(weights, arrivals):
        raise BadArrivals(arrivals)


def check_arrivals_for_some(arrivals):
    """Raise BadArrivals if there are no weights for which the value is arrivals."""
    if not is_arrivals_for_some(arrivals):
        raise BadArrivals(arrivals)


def check_flow(weights, flow):
    """Raise BadFlow if the value is not a flow of the weights."""
    if not is_flow(weights, flow):
        raise BadFlow(flow)


def check_flow_of_some(flow):
    """Raise BadFlow if the value is not a flow of any weights."""
    if not is_flow_of_some(flow):
        raise BadFlow(flow)


def share(weights, flow):
    """The share of the flow, a fraction."""
    check_weights(weights)
    check_flow(weights, flow)
    return fraction(weights[flow], sum(weights))


def longest(weights, arrivals):
    """The greatest length of all packets, 0 if there are none."""
    check_arrivals(weights, arrivals)
    return max([length for _, _, length in arrivals], default=0)


def longest_of(arrivals, flow):
    """The greatest length of the packets of the flow, 0 if there are none."""
    return max([length for _, owner, length in arrivals if owner == flow], default=0)


def own_longest(weights, arrivals, flow):
    """The greatest length of the packets of the flow, 0 if there are none."""
    check_arrivals(weights, arrivals)
    check_flow(weights, flow)
    return longest_of(arrivals, flow)
