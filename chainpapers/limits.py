"""Limits: all that matters of a chain to those that follow it, but for the policies and the titles."""

from chainpapers.basics import MOST_TIME, are_some_of, are_span, is_truth, is_tuple
from chainpapers.certificates import check_certificate
from chainpapers.depths import NO_DEPTH, NOT_LET, check_depth, left_behind
from chainpapers.errors import InvalidLimits, InvalidNumber
from chainpapers.rights import can_seal, check_chain, check_purposes, met_purposes, purposes_in
from chainpapers.stores import is_depth
from chainpapers.times import check_time
from chainpapers.wordlists import PURPOSES


def is_limits(value):
    """Return whether any value are limits."""
    if not is_tuple(value, 4, 4) or not is_depth(value[0]):
        return False
    return are_some_of(value[1], PURPOSES) and are_span(value[2], value[3])


def check_limits(limits):
    """Raise InvalidLimits for what are no limits."""
    if not is_limits(limits):
        raise InvalidLimits("these are no limits")


def first_limits(depth):
    """Return the limits of an anchor's depth, unchecked."""
    return (depth, PURPOSES, 0, MOST_TIME)


def next_limits(limits, certificate, is_last):
    """Return the limits behind one more certificate, or the word for what bars it, unchecked."""
    left, purposes, low, high = limits
    if not is_last:
        if not can_seal(certificate):
            return "seal"
        left = left_behind(left, certificate)
        if left == NOT_LET:
            return "depth"
    low = max(low, certificate[5])
    high = min(high, certificate[6])
    if low > high:
        return "times"
    return (left, met_purposes(purposes, purposes_in(certificate)), low, high)


def parting_triple(one, other):
    """Return a triple that parts the first limits from the other ones, or None if they are laxer, unchecked."""
    left, purposes, low, high = one
    if left != NO_DEPTH and (other[0] == NO_DEPTH or other[0] > left):
        return (left + 1, other[2], ())
    if other[2] < low:
        return (0, other[2], ())
    if other[3] > high:
        return (0, other[3], ())
    barred = tuple([purpose for purpose in other[1] if purpose not in purposes])
    return (0, other[2], barred) if barred else None


def limits_started(depth):
    """Return the limits of an anchor's depth."""
    check_depth(depth)
    return first_limits(depth)


def limits_behind(limits, certificate, is_last):
    """Return the limits behind one more certificate, which is the last one or not, or the word for what bars it."""
    check_limits(limits)
    check_certificate(certificate)
    if not is_truth(is_last):
        raise InvalidNumber("a certificate is the last one, or is not")
    return next_limits(limits, certificate, is_last)


def limits_of(depth, chain):
    """Return the limits behind a whole chain, or the place and the word of the first certificate that is barred."""
    check_depth(depth)
    check_chain(chain)
    limits = first_limits(depth)
    for at in range(len(chain)):
        limits = next_limits(limits, chain[at], at == len(chain) - 1)
        if isinstance(limits, str):
            return (at, limits)
    return limits


def limits_let(limits, time, purposes):
    """Return whether limits let a time and purposes."""
    check_limits(limits)
    check_time(time)
    check_purposes(purposes)
    return limits[2] <= time <= limits[3] and met_purposes(purposes, limits[1]) == purposes


def are_laxer(one, other):
    """Return whether the first limits are laxer than the other ones, or the same."""
    check_limits(one)
    check_limits(other)
    return parting_triple(one, other) is None


def limits_parting(one, other):
    """Return any triple that parts the first limits from the other ones, or None if they are laxer."""
    check_limits(one)
    check_limits(other)
    return parting_triple(one, other)
