"""Papers of policies: a row for what holds, lost sets for what does not."""

from chainpapers.basics import are_all, is_policy, is_tuple
from chainpapers.errors import InvalidPolicy
from chainpapers.policyparts import all_numbers, check_numbers, check_path
from chainpapers.policyrows import ANY, first_policy, is_row_along, words_expected, words_taken
from chainpapers.policysteps import ANY_PAIR, KEPT_FIRST, all_kept, are_kept, entered_pairs, led_pairs


def check_policy(policy):
    """Raise InvalidPolicy for what is no policy."""
    if not is_policy(policy):
        raise InvalidPolicy("this is no policy")


def check_asked(numbers, path, policy):
    """Raise the error of the first argument that is wrong."""
    check_numbers(numbers)
    check_path(path)
    check_policy(policy)


def rows_entering(rows, numbers, certificate, is_last, policy):
    """Return a dict of a row for each pair entering a certificate, from one for each pair ahead of it.

    Other origins than a policy and "any" are left out.
    """
    found = {}
    for origin, expected in rows:
        for word in words_taken(numbers, certificate, is_last, expected):
            pair = (word if origin == ANY else origin, word)
            if pair[0] in (policy, ANY):
                found[pair] = rows[(origin, expected)] + (word,)
    return found


def rows_passing(rows, numbers, certificate):
    """Return a dict of a row for each pair behind a certificate, from one for each pair that has entered it."""
    found = {}
    for origin, word in rows:
        for expected in words_expected(numbers, certificate, word):
            found[(origin, expected)] = rows[(origin, word)]
    return found


def does_hold(kept, numbers, target, policy):
    """Return whether a pair with a policy or "any" as its origin comes of some pairs entering the target, unchecked."""
    for origin, _ in entered_pairs(kept, numbers, target, True):
        if origin in (policy, ANY):
            return True
    return False


def held_row(numbers, path, policy):
    """Return any policy row of all certificates whose origin is a policy or "any", or None if there is none."""
    check_asked(numbers, path, policy)
    along = all_numbers(numbers, path)
    rows = {ANY_PAIR: ()}
    for at in range(len(path) - 1):
        entering = rows_entering(rows, along[at], path[at], False, policy)
        rows = rows_passing(entering, along[at], path[at])
    ending = rows_entering(rows, along[-1], path[-1], True, policy)
    return ending[min(ending)] if ending else None


def shows_held(numbers, path, policy, value):
    """Return whether any value is a policy row of all certificates whose origin is a policy or "any"."""
    check_asked(numbers, path, policy)
    return is_row_along(numbers, path, value) and first_policy(value) in (policy, ANY)


def lost_sets(numbers, path, policy):
    """Return any lost sets for a policy, or None if it holds for a path."""
    check_asked(numbers, path, policy)
    along = all_numbers(numbers, path)
    # The least sets that are closed: if these do not show it, none do.
    sets = all_kept(KEPT_FIRST, numbers, path)
    return None if does_hold(sets[-1], along[-1], path[-1], policy) else tuple(sets)


def are_closed(numbers, path, sets):
    """Return whether each next one of some sets of pairs has all pairs to which those ahead lead, unchecked."""
    along = all_numbers(numbers, path)
    for at in range(1, len(sets)):
        there = {pair: True for pair in sets[at]}
        for pair in led_pairs(sets[at - 1], along[at - 1], path[at - 1]):
            if pair not in there:
                return False
    return True


def shows_lost(numbers, path, policy, value):
    """Return whether any value are lost sets for a policy."""
    check_asked(numbers, path, policy)
    if not is_tuple(value, len(path), len(path)) or not are_all(value, are_kept) or ANY_PAIR not in value[0]:
        return False
    if not are_closed(numbers, path, value):
        return False
    return not does_hold(value[-1], all_numbers(numbers, path)[-1], path[-1], policy)
