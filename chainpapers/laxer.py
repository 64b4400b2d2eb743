"""Which walk states are laxer than others."""

from chainpapers.policyorder import is_number_laxer, is_policy_state_laxer
from chainpapers.regions import has_all_of
from chainpapers.walkstates import check_walk_state


def is_laxer(state, other):
    """Return whether a walk state is laxer than another one, or the same."""
    check_walk_state(state)
    check_walk_state(other)
    if state[:2] != other[:2] or not is_number_laxer(state[2], other[2]):
        return False
    return has_all_of(state[3], other[3]) and is_policy_state_laxer(state[4], other[4])
