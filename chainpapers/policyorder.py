"""Which states of policies are laxer than others."""

from chainpapers.policyparts import NO_BOUND
from chainpapers.policysteps import ANY_PAIR, check_policy_state


def is_number_laxer(number, other):
    """Return whether a number of policies is none, or at least another one that is not none."""
    return number == NO_BOUND or (other != NO_BOUND and number >= other)


def are_numbers_laxer(numbers, others):
    """Return whether each of three numbers is laxer than the other one in its place, or the same."""
    for at in range(3):
        if not is_number_laxer(numbers[at], others[at]):
            return False
    return True


def is_policy_state_laxer(state, other):
    """Return whether a state of policies is laxer than another one, or as lax, unchecked."""
    if not are_numbers_laxer(state[1], other[1]):
        return False
    kept = {pair: True for pair in state[0]}
    for pair in other[0]:
        # "any" leads to the same policy twice, whatever policy it is.
        if pair not in kept and not (pair[0] == pair[1] and ANY_PAIR in kept):
            return False
    return True


def policy_laxer(state, other):
    """Return whether a state is laxer than another one, or as lax."""
    check_policy_state(state)
    check_policy_state(other)
    return is_policy_state_laxer(state, other)
