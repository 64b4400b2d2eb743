"""Steps from one store to another, told by texts."""

from chainpapers.basics import is_tuple
from chainpapers.deeds import store_behind, thing_text
from chainpapers.errors import ChainError
from chainpapers.stores import check_store
from chainpapers.texterrors import InvalidSteps

MOST_STEPS = 100


def is_step(value):
    """Return whether any value is a pair of "put" or "out" and of a string."""
    return is_tuple(value, 2, 2) and value[0] in ("put", "out") and isinstance(value[1], str)


def are_steps(value, most):
    """Return whether any value is a tuple of at most so many such pairs."""
    if not is_tuple(value, 0, most):
        return False
    for item in value:
        if not is_step(item):
            return False
    return True


def steps_of(store, other, deed):
    """Return the list of the steps of one deed for all that a store has and another one has not, in order."""
    return [(deed, thing_text(at, thing)) for at in range(3) for thing in store[at] if thing not in other[at]]


def store_steps(store, other):
    """Return the tuple of the steps from a store to another one."""
    check_store(store)
    check_store(other)
    return tuple(steps_of(store, other, "out") + steps_of(other, store, "put"))


def applied(store, steps):
    """Return the store behind some steps, done one after the other."""
    check_store(store)
    if not are_steps(steps, MOST_STEPS):
        raise InvalidSteps("these are no steps")
    for deed, text in steps:
        try:
            store = store_behind(store, deed, text)
        except ChainError:
            raise InvalidSteps("one of these is no step of the store as it is then")
    return store
