"""Values with a row, and their rows."""

from chainpapers.basics import are_signs, is_integer, is_truth, is_tuple
from chainpapers.errors import BadRow, InvalidValue
from chainpapers.rowreading import RowReader, next_octets, place_refused
from chainpapers.rowwriting import value_row
from chainpapers.seals import check_row
from chainpapers.valuelimits import MOST_DEEP, MOST_ITEMS, MOST_SIGNS, MOST_VALUE


def is_value_within(value, deep):
    """Return whether any value is one with a row, with tuples at most so deep."""
    if isinstance(value, tuple):
        # Asked ahead of the items, this bounds how deep the calls go.
        if deep == 0 or not is_tuple(value, 0, MOST_ITEMS):
            return False
        for item in value:
            if not is_value_within(item, deep - 1):
                return False
        return True
    return is_truth(value) or is_integer(value, -1, MOST_VALUE) or are_signs(value, 0, MOST_SIGNS)


def is_value(value):
    """Return whether any value is one with a row."""
    return is_value_within(value, MOST_DEEP)


def check_value(value):
    """Raise InvalidValue for what is no value with a row."""
    if not is_value(value):
        raise InvalidValue("this is no value with a row")


def row_of(value):
    """Return the row of a value."""
    check_value(value)
    return value_row(value)


def read_value(row):
    """Return the value whose row a row is."""
    check_row(row)
    reader = RowReader()
    at = place_refused(reader, row)
    if at is not None:
        raise BadRow(at)
    return reader.value


def first_refused(row):
    """Return the first place with which no value's row goes on, or None for a value's row."""
    check_row(row)
    return place_refused(RowReader(), row)


def goes_on(row):
    """Return the ascending tuple of the octets with which a row goes on, or None if no value's row begins with it."""
    check_row(row)
    return next_octets(RowReader(), row)
