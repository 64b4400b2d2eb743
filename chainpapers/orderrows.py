"""Ordered rows: of values built alike the lesser one has the lesser ordered row."""

from chainpapers.errors import BadRow
from chainpapers.orderreading import OrderReader
from chainpapers.rowreading import next_octets, place_refused
from chainpapers.seals import check_row
from chainpapers.valuerows import check_value


def digit_octets(number):
    """Return the list of the five digits of a number to the base 256, the highest first."""
    digits = []
    for _ in range(5):
        digits.append(number % 256)
        number = number // 256
    return digits[::-1]


def order_octets(value):
    """Return the list of the octets of the ordered row of a value, unchecked."""
    # A truth value is an integer for isinstance, and is asked for first.
    if isinstance(value, bool):
        return [1, int(value)]
    if isinstance(value, int):
        return [2] + digit_octets(value + 1)
    if isinstance(value, str):
        return [3] + [ord(sign) for sign in value] + [0]
    octets = [4]
    for item in value:
        octets.extend(order_octets(item))
    octets.append(0)
    return octets


def order_row(value):
    """Return the ordered row of a value."""
    check_value(value)
    return tuple(order_octets(value))


def read_order(row):
    """Return the value whose ordered row a row is."""
    check_row(row)
    reader = OrderReader()
    at = place_refused(reader, row)
    if at is not None:
        raise BadRow(at)
    return reader.value


def order_goes_on(row):
    """Return the ascending tuple of the octets with which an ordered row goes on, or None if no one begins with it."""
    check_row(row)
    return next_octets(OrderReader(), row)
