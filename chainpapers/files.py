"""Files: rows of several values, sealed or not."""

from chainpapers.basics import is_seal, is_tuple
from chainpapers.errors import BadRow, BadSeal, InvalidValue, TooMany
from chainpapers.rowreading import RowReader, read_on
from chainpapers.rowwriting import value_octets
from chainpapers.seals import MOST_OCTETS, check_key, check_row, seal_of_octets
from chainpapers.valuerows import check_value


def check_values(values):
    """Raise InvalidValue for what is no tuple of 0 to 200 values with rows."""
    if not is_tuple(values, 0, 200):
        raise InvalidValue("a file is made of a tuple of at most 200 values")
    for value in values:
        check_value(value)


def file_of(octets):
    """Return octets as a row, which must not be too long."""
    if len(octets) > MOST_OCTETS:
        raise TooMany(MOST_OCTETS)
    return tuple(octets)


def octets_of_all(values):
    """Return the list of the octets of the rows of some values, one behind the other."""
    octets = []
    for value in values:
        octets.extend(value_octets(value))
    return octets


def read_ahead(row):
    """Return the whole values from the beginning of a row, the places where each begins, and where the next one does.

    The last place is that at which this next one is refused, or the length of the row.
    """
    values = []
    places = [0]
    at = 0
    while at < len(row):
        reader = RowReader()
        at = read_on(reader, row, at)
        if not reader.is_whole():
            break
        values.append(reader.value)
        places.append(at)
    return tuple(values), places, at


def read_all(row):
    """Return the values of a file, and the places where their rows begin and where the last one ends."""
    values, places, at = read_ahead(row)
    if places[-1] < len(row):
        raise BadRow(at)
    return values, places


def file_row(values):
    """Return the file of some values."""
    check_values(values)
    return file_of(octets_of_all(values))


def read_file(row):
    """Return the tuple of the values of a file."""
    check_row(row)
    return read_all(row)[0]


def places_of(row):
    """Return the ascending tuple of the places where the rows of the values of a file begin."""
    check_row(row)
    return tuple(read_all(row)[1][:-1])


def values_ahead(row):
    """Return the whole values from the beginning of any row, and the place behind them."""
    check_row(row)
    values, places, _ = read_ahead(row)
    return values, places[-1]


def sealed_file(key, values):
    """Return the file of some values and of its seal by a key."""
    check_key(key)
    check_values(values)
    octets = octets_of_all(values)
    return file_of(octets + value_octets(seal_of_octets(key, octets)))


def open_file(key, row):
    """Return the values of a file ahead of its seal by a key."""
    check_key(key)
    check_row(row)
    values, places = read_all(row)
    # A truth value is equal to an integer, but no seal.
    if not values or not is_seal(values[-1]):
        raise BadSeal("the last value is no seal")
    if values[-1] != seal_of_octets(key, row[:places[-2]]):
        raise BadSeal("the seal is another one")
    return values[:-1]
