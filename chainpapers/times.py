"""Sets of times: ascending stretches (low, high) that do not touch."""

from chainpapers.basics import are_all, are_span, is_time, is_tuple
from chainpapers.errors import InvalidChain, InvalidNumber, InvalidTimes
from chainpapers.rights import check_chain, is_chain
from chainpapers.spans import IN_ANY, IN_BOTH, IN_FIRST, are_apart, combined_spans, is_in_spans

MOST_STRETCHES = 100
MOST_CHAINS = 30


def is_stretch(value):
    """Return whether any value is a pair (low, high) of times."""
    return is_tuple(value, 2, 2) and are_span(value[0], value[1])


def is_times(value):
    """Return whether any value is a set of times."""
    return is_tuple(value, 0, MOST_STRETCHES) and are_all(value, is_stretch) and are_apart(value)


def check_times(times):
    """Raise InvalidTimes for what is no set of times."""
    if not is_times(times):
        raise InvalidTimes("this is no set of times")


def check_time(time):
    """Raise InvalidNumber for what is no time."""
    if not is_time(time):
        raise InvalidNumber("a time is an integer from 0 to 1000000000")


def lasting_times(chain):
    """Return the set of the times at which all certificates of a chain last, unchecked."""
    low = max([certificate[5] for certificate in chain])
    high = min([certificate[6] for certificate in chain])
    return ((low, high),) if low <= high else ()


def times_joined(one, other):
    """Return the set of the times that at least one of two sets has."""
    check_times(one)
    check_times(other)
    return combined_spans(one, other, IN_ANY)


def times_met(one, other):
    """Return the set of the times that both of two sets have."""
    check_times(one)
    check_times(other)
    return combined_spans(one, other, IN_BOTH)


def times_less(one, other):
    """Return the set of the times that one set has, and another one has not."""
    check_times(one)
    check_times(other)
    return combined_spans(one, other, IN_FIRST)


def has_time(times, time):
    """Return whether a set of times has a time."""
    check_times(times)
    check_time(time)
    return is_in_spans(times, time)


def chain_times(chain):
    """Return the set of the times at which all certificates of a chain last."""
    check_chain(chain)
    return lasting_times(chain)


def times_of_chains(chains):
    """Return the set of the times at which all certificates of at least one of some chains last."""
    if not is_tuple(chains, 0, MOST_CHAINS) or not are_all(chains, is_chain):
        raise InvalidChain("these are no 0 to 30 chains")
    times = ()
    for chain in chains:
        times = combined_spans(times, lasting_times(chain), IN_ANY)
    return times
