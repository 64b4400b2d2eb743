"""What is built for several targets, all that can be reached, and the certificates that no path can do without."""

from chainpapers.basics import is_ascending, is_integer, is_tuple
from chainpapers.builder import built_by
from chainpapers.errors import InvalidTargets
from chainpapers.paths import all_paths, all_targets
from chainpapers.stores import check_question, check_store
from chainpapers.walker import Walker

MOST_TARGETS = 6


def are_targets(store, value):
    """Return whether any value is an ascending tuple of 1 to 6 indices of certificates of a store."""
    if not is_tuple(value, 1, MOST_TARGETS):
        return False
    for index in value:
        if not is_integer(index, 0, len(store[0]) - 1):
            return False
    return is_ascending(value)


def with_target(question, index):
    """Return the question with another target."""
    return (index,) + question[1:]


def built_each(store, question, targets):
    """Return the tuple of what is built for each of some targets."""
    check_store(store)
    check_question(store, question)
    if not are_targets(store, targets):
        raise InvalidTargets("these are no 1 to 6 targets that ascend")
    walker = Walker(store, question)
    found = []
    for index in targets:
        walker.ask(with_target(question, index))
        found.append(built_by(walker, False))
    return tuple(found)


def reached(store, question):
    """Return the ascending tuple of the indices of all certificates to which, as targets, there is a path."""
    check_store(store)
    check_question(store, question)
    return all_targets(Walker(store, question))


def is_in_all(index, paths):
    """Return whether an index is among those of each of some paths."""
    for indices in paths:
        if index not in indices:
            return False
    return True


def needed(store, question):
    """Return the ascending tuple of the indices of all certificates that each path has, or None if there is none."""
    check_store(store)
    check_question(store, question)
    paths = [chain[1] for chain, _ in all_paths(Walker(store, question))]
    if not paths:
        return None
    return tuple([index for index in range(len(store[0])) if is_in_all(index, paths)])
