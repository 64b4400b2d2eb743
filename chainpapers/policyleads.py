"""Where pairs of policies, and rows of them, lead."""

from chainpapers.policyparts import all_numbers, check_numbers, check_path, numbers_behind
from chainpapers.policysteps import KEPT_FIRST, all_kept, check_policy_state, entered_pairs, led_pairs


def led_on(state, path):
    """Return the state behind entering and passing all certificates of a path, whatever ask is."""
    check_policy_state(state)
    check_path(path)
    kept, numbers = state
    for certificate in path:
        kept = led_pairs(kept, numbers, certificate)
        numbers = numbers_behind(numbers, certificate)
    return (kept, numbers)


def policy_leads(numbers, path):
    """Return the ascending tuple of the pairs (origin, last word) of all policy rows of all certificates."""
    check_numbers(numbers)
    check_path(path)
    kept = all_kept(KEPT_FIRST, numbers, path)[-1]
    return entered_pairs(kept, all_numbers(numbers, path)[-1], path[-1], True)
