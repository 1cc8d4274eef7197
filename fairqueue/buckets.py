"""Buckets, which bound what a flow sends in any time, and the least delays that keep them."""

from fairqueue.errors import BadBucket
from fairqueue.flows import check_arrivals_for_some, check_flow_of_some, longest_of
from fairqueue.kinds import ceiling, has_form, is_fraction, is_from_one, is_position


def is_bucket(thing):
    """Whether any value is a bucket."""
    if not isinstance(thing, tuple) or len(thing) != 2:
        return False
    burst, rate = thing
    return is_from_one(burst) and is_fraction(rate) and rate[0] > 0


def check_bucket(arrivals, flow, bucket):
    """Raise BadArrivals, BadFlow or BadBucket if one of the values is not of its kind."""
    check_arrivals_for_some(arrivals)
    check_flow_of_some(flow)
    if not is_bucket(bucket):
        raise BadBucket(bucket)


def fits(bucket, total, time):
    """Whether the bucket allows this total of lengths from one moment to another, so much time later."""
    burst, (top, bottom) = bucket
    return (total - burst) * bottom <= top * time


def breaks(arrivals, flow, bucket, first, last):
    """Whether the packets of the flow from the number first to the number last break the bucket."""
    total = sum([length for _, owner, length in arrivals[first : last + 1] if owner == flow])
    return not fits(bucket, total, arrivals[last][0] - arrivals[first][0])


def judge_bucket(arrivals, flow, bucket):
    """A certificate that the flow keeps the bucket, or one that it does not."""
    check_bucket(arrivals, flow, bucket)
    numbers = [number for number, (_, owner, _) in enumerate(arrivals) if owner == flow]
    for at, last in enumerate(numbers):
        for first in numbers[: at + 1]:
            if breaks(arrivals, flow, bucket, first, last):
                return "breaks", first, last
    return ("kept",)


def is_packet_of(arrivals, flow, thing):
    """Whether any value is the number of a packet of the flow."""
    return is_position(thing, len(arrivals)) and arrivals[thing][1] == flow


def bucket_holds(arrivals, flow, bucket, thing):
    """Whether any value is a certificate for the arrivals, the flow and the bucket."""
    check_bucket(arrivals, flow, bucket)
    if has_form(thing, "kept", 1):
        return judge_bucket(arrivals, flow, bucket) == thing
    if not has_form(thing, "breaks", 3):
        return False
    _, first, last = thing
    if not is_packet_of(arrivals, flow, first) or not is_packet_of(arrivals, flow, last):
        return False
    return first <= last and breaks(arrivals, flow, bucket, first, last)


def put_off(bucket, before, moment, length):
    """The least moment, from this one on, at which a packet keeps the bucket with those before it, in order."""
    burst, (top, bottom) = bucket
    found = moment
    total = length
    for earlier, other in reversed(before):
        total += other
        found = max(found, earlier, earlier + ceiling((total - burst) * bottom, top))
    return found


def shaped(arrivals, flow, bucket):
    """The arrivals with the packets of the flow put off to the least moments that keep the bucket."""
    check_bucket(arrivals, flow, bucket)
    if longest_of(arrivals, flow) > bucket[0]:
        raise BadBucket(bucket)
    packets = []
    before = []
    for moment, owner, length in arrivals:
        later = put_off(bucket, before, moment, length) if owner == flow else moment
        packets.append((later, owner, length))
        if owner == flow:
            before.append((later, length))
    # Sorting leaves packets of the same moment in the order in which they stand.
    return tuple(sorted(packets, key=lambda packet: packet[0]))
