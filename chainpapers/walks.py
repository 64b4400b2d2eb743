"""Walks: from an anchor along a path, up to the target, or up to what bars it."""

from chainpapers.basics import is_integer, is_tuple
from chainpapers.errors import InvalidPath
from chainpapers.steps import step_through
from chainpapers.stores import check_question, check_store
from chainpapers.walkstates import check_anchor_index, first_walk_state

MOST_PLACES = 8


def are_indices(store, value):
    """Return whether any value is a tuple of 1 to 8 indices of certificates of a store, unlike or not, unchecked."""
    if not is_tuple(value, 1, MOST_PLACES):
        return False
    for index in value:
        if not is_integer(index, 0, len(store[0]) - 1):
            return False
    return True


def is_index_path(store, question, value):
    """Return whether any value is a path: indices, the target's being the last one and at no other place."""
    return are_indices(store, value) and value[-1] == question[0] and question[0] not in value[:-1]


def check_walk(store, question, anchor, path):
    """Raise the error of the first argument that is wrong."""
    check_store(store)
    check_question(store, question)
    check_anchor_index(store, anchor)
    if not is_index_path(store, question, path):
        raise InvalidPath("this is no path to the target")


def walked(store, question, anchor, path):
    """Return the list of the states along a walk, and ("let", policies let) or ("barred", place, reason), unchecked."""
    states = [first_walk_state(store, question, anchor)]
    for place in range(len(path)):
        step = step_through(store, question, states[-1], path[place])
        if step[0] == "barred":
            return states, ("barred", place, step[1])
        if step[0] == "let":
            break
        states.append(step[1])
    return states, step


def walk(store, question, anchor, path):
    """Return ("let", policies let) or ("barred", place, reason) for the walk of a path from an anchor."""
    check_walk(store, question, anchor, path)
    return walked(store, question, anchor, path)[1]


def states_along(store, question, anchor, path):
    """Return the list of the state with which a walk begins, and of those behind each certificate that it passes."""
    check_walk(store, question, anchor, path)
    return walked(store, question, anchor, path)[0]
