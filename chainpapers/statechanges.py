"""At which times the state of a certificate becomes another one."""

from chainpapers.basics import are_span
from chainpapers.certificates import check_certificate
from chainpapers.errors import InvalidNumber
from chainpapers.reaching import check_grace, check_lists, check_sealers
from chainpapers.views import indices_for
from chainpapers.withdrawal import state_among


def turning_times(lists, indices, grace):
    """Return the list of all times at which a state may become another one, by the lists with these indices."""
    times = []
    for at in indices:
        own = lists[at]
        times.extend([own[4], own[5] + grace + 1])
        times.extend([entry[2] for entry in own[7]])
    return times


def times_between(times, low, high):
    """Return the ascending list of a low time, and of those of some times that are behind it, up to a high one."""
    return sorted(set([low] + [time for time in times if low < time <= high]))


def state_changes(lists, sealers, certificate, grace, low, high):
    """Return the ascending tuple of a low time, and of those behind it at which the state changes, with the states."""
    check_lists(lists)
    check_sealers(sealers)
    check_certificate(certificate)
    check_grace(grace)
    if not are_span(low, high):
        raise InvalidNumber("these are no two times, the high one not ahead of the low one")
    indices = indices_for(lists, sealers, certificate)
    changes = []
    for time in times_between(turning_times(lists, indices, grace), low, high):
        state = state_among(lists, indices, certificate, time, grace)
        if not changes or changes[-1][1] != state:
            changes.append((time, state))
    return tuple(changes)
