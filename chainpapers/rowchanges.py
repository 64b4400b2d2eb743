"""Changes that lead from one row, or one value, to another."""

from chainpapers.basics import is_ascending, is_integer, is_tuple
from chainpapers.errors import InvalidChange, TooMany
from chainpapers.seals import MOST_OCTETS, check_row, is_row
from chainpapers.valuerows import check_value, is_value

MOST_CHANGES = 1000


def same_ahead(one, other):
    """Return how many items two rows have in common from their beginnings on."""
    at = 0
    while at < min(len(one), len(other)) and one[at] == other[at]:
        at += 1
    return at


def change_of(one, other):
    """Return the change that leads from one row to another, with the greatest place and then the least taken out."""
    check_row(one)
    check_row(other)
    at = same_ahead(one, other)
    # What is behind the place alone may be left as it is at the end, for the two ends must not overlap.
    kept = same_ahead(one[at:][::-1], other[at:][::-1])
    return (at, len(one) - at - kept, other[at:len(other) - kept])


def check_change(row, change):
    """Raise InvalidChange for what is no change of a row."""
    if not is_tuple(change, 3, 3) or not is_integer(change[0], 0, len(row)):
        raise InvalidChange("a change begins at a place of the row, or at its length")
    if not is_integer(change[1], 0, len(row) - change[0]) or not is_row(change[2]):
        raise InvalidChange("a change takes out octets that are there, and puts in a row")


def changed_row(row, change):
    """Return a row with a change of it done."""
    check_row(row)
    check_change(row, change)
    at, many, octets = change
    if len(row) - many + len(octets) > MOST_OCTETS:
        raise TooMany(MOST_OCTETS)
    return row[:at] + octets + row[at + many:]


def change_back(row, change):
    """Return the change of the changed row that leads back."""
    check_row(row)
    check_change(row, change)
    at, many, octets = change
    return (at, len(octets), row[at:at + many])


def outermost_changes(one, other):
    """Return the list of the changes at the outermost places that lead from one value to another, unchecked."""
    if isinstance(one, tuple) and isinstance(other, tuple) and len(one) == len(other):
        changes = []
        for at in range(len(one)):
            changes.extend([((at,) + path, value) for path, value in outermost_changes(one[at], other[at])])
        return changes
    # A truth value is equal to an integer, but unlike it here.
    if one == other and isinstance(one, bool) == isinstance(other, bool):
        return []
    return [((), other)]


def changes_of(one, other):
    """Return the changes of one value that lead to another, at the outermost places."""
    check_value(one)
    check_value(other)
    return tuple(outermost_changes(one, other))


def is_path_of(value, path):
    """Return whether anything is a path of a value."""
    if not isinstance(path, tuple):
        return False
    for index in path:
        if not isinstance(value, tuple) or not is_integer(index, 0, len(value) - 1):
            return False
        value = value[index]
    return True


def are_single_changes(value, changes):
    """Return whether anything is a tuple of 0 to 1000 pairs of a path of a value and a value with a row."""
    if not is_tuple(changes, 0, MOST_CHANGES):
        return False
    for change in changes:
        if not is_tuple(change, 2, 2) or not is_path_of(value, change[0]) or not is_value(change[1]):
            return False
    return True


def are_apart(paths):
    """Return whether paths ascend, none of them beginning another one."""
    # Of ascending paths all that one begins stand right behind it.
    for at in range(1, len(paths)):
        if paths[at][:len(paths[at - 1])] == paths[at - 1]:
            return False
    return is_ascending(paths)


def with_item_at(value, path, item):
    """Return a value with an item in the place to which a path leads."""
    if path == ():
        return item
    at = path[0]
    return value[:at] + (with_item_at(value[at], path[1:], item),) + value[at + 1:]


def changed_value(value, changes):
    """Return a value with changes of it done."""
    check_value(value)
    if not are_single_changes(value, changes) or not are_apart([change[0] for change in changes]):
        raise InvalidChange("these are no changes of the value")
    changed = value
    for path, item in changes:
        changed = with_item_at(changed, path, item)
    if not is_value(changed):
        raise InvalidChange("what is left behind the changes has no row")
    return changed
