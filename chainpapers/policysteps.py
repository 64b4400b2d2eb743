"""States of policies: what is kept of the policy rows of some certificates, entered and passed in turn."""

from chainpapers.basics import are_ascending, is_policy, is_tuple
from chainpapers.certificates import check_certificate
from chainpapers.errors import InvalidPolicies, InvalidState
from chainpapers.policyparts import all_numbers, are_numbers, ask_at_target, check_numbers, check_path, check_truth
from chainpapers.policyparts import numbers_behind
from chainpapers.policyrows import ANY, words_expected, words_taken
from chainpapers.stores import are_wanted

MOST_KEPT = 1000
ANY_PAIR = ("any", "any")
KEPT_FIRST = (("any", "any"),)


def is_kept_pair(value):
    """Return whether any value is ("any", "any"), or a pair of policies."""
    if not is_tuple(value, 2, 2):
        return False
    return value == ANY_PAIR or (is_policy(value[0]) and is_policy(value[1]))


def are_kept(value):
    """Return whether any value are the pairs that a state keeps."""
    return are_ascending(value, 0, MOST_KEPT, is_kept_pair)


def is_policy_state(value):
    """Return whether any value is a state."""
    return is_tuple(value, 2, 2) and are_kept(value[0]) and are_numbers(value[1])


def check_policy_state(state):
    """Raise InvalidState for what is no state."""
    if not is_policy_state(state):
        raise InvalidState("this is no state of policies")


def check_wanted(wanted):
    """Raise InvalidPolicies for what are no policies wanted."""
    if not are_wanted(wanted):
        raise InvalidPolicies("these are no policies wanted")


def entered_pairs(kept, numbers, certificate, is_last):
    """Return the ascending tuple of the pairs that some pairs become entering a certificate, unchecked."""
    found = {}
    for origin, expected in kept:
        for word in words_taken(numbers, certificate, is_last, expected):
            found[(word if origin == ANY else origin, word)] = True
    return tuple(sorted(found))


def passed_pairs(kept, numbers, certificate):
    """Return the ascending tuple of the pairs that some pairs become passing a certificate, unchecked."""
    found = {}
    for origin, word in kept:
        for expected in words_expected(numbers, certificate, word):
            found[(origin, expected)] = True
    return tuple(sorted(found))


def led_pairs(kept, numbers, certificate):
    """Return the ascending tuple of the pairs to which pairs lead, entering and passing a certificate, unchecked."""
    return passed_pairs(entered_pairs(kept, numbers, certificate, False), numbers, certificate)


def all_kept(kept, numbers, path):
    """Return the list of the pairs that are kept ahead of each certificate of a path, unchecked."""
    along = all_numbers(numbers, path)
    found = [kept]
    for at in range(len(path) - 1):
        found.append(led_pairs(found[-1], along[at], path[at]))
    return found


def first_state(numbers):
    """Return the start with some numbers, unchecked."""
    return (KEPT_FIRST, numbers)


def entered_state(state, certificate, is_last):
    """Return the state entering a certificate, or None if nothing is kept then and ask is 0, unchecked."""
    kept = entered_pairs(state[0], state[1], certificate, is_last)
    if kept == () and state[1][0] == 0:
        return None
    return (kept, state[1])


def passed_state(state, certificate):
    """Return the state passing a certificate, unchecked."""
    return (passed_pairs(state[0], state[1], certificate), numbers_behind(state[1], certificate))


def let_by_origins(origins, wanted):
    """Return the ascending tuple of the policies let, of those wanted, by the origins of all rows, unchecked."""
    if ANY in wanted:
        return tuple(sorted(set(origins)))
    if ANY in origins:
        return wanted
    return tuple([policy for policy in wanted if policy in origins])


def ended_policies(state, certificate, wanted):
    """Return what a state behind entering the target lets, or None if this is () and ask is 0 there, unchecked."""
    let = let_by_origins([origin for origin, _ in state[0]], wanted)
    if let == () and ask_at_target(state[1], certificate) == 0:
        return None
    return let


def policy_start(numbers):
    """Return the start with some numbers."""
    check_numbers(numbers)
    return first_state(numbers)


def policy_entered(state, certificate, is_last):
    """Return the state entering a certificate, or None if nothing is kept then, and ask is 0."""
    check_policy_state(state)
    check_certificate(certificate)
    check_truth(is_last)
    return entered_state(state, certificate, is_last)


def policy_passed(state, certificate):
    """Return the state passing a certificate."""
    check_policy_state(state)
    check_certificate(certificate)
    return passed_state(state, certificate)


def policy_ended(state, certificate, wanted):
    """Return what a state behind entering the target lets, or None if this is () and ask is 0 there."""
    check_policy_state(state)
    check_certificate(certificate)
    check_wanted(wanted)
    return ended_policies(state, certificate, wanted)


def policies_let(numbers, path, wanted):
    """Return ("let", what is let), or ("bar", the place of the certificate at which a path is barred)."""
    check_numbers(numbers)
    check_path(path)
    check_wanted(wanted)
    state = first_state(numbers)
    for at in range(len(path)):
        is_last = at == len(path) - 1
        state = entered_state(state, path[at], is_last)
        if state is None:
            return ("bar", at)
        if not is_last:
            state = passed_state(state, path[at])
    let = ended_policies(state, path[-1], wanted)
    return ("bar", len(path) - 1) if let is None else ("let", let)
