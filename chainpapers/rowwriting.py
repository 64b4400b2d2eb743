"""The octets that are written for numbers and for values, unchecked."""


def number_octets(number):
    """Return the list of the octets of the row of a number from 0 on."""
    octets = []
    while number >= 128:
        octets.append(number % 128 + 128)
        number = number // 128
    octets.append(number)
    return octets


def value_octets(value):
    """Return the list of the octets of the row of a value."""
    # A truth value is an integer for isinstance, and is asked for first.
    if isinstance(value, bool):
        return [4, int(value)]
    if isinstance(value, int):
        return [1] + number_octets(value + 1)
    if isinstance(value, str):
        return [2] + number_octets(len(value)) + [ord(sign) for sign in value]
    octets = [3] + number_octets(len(value))
    for item in value:
        octets.extend(value_octets(item))
    return octets


def value_row(value):
    """Return the row of a value, of any length."""
    return tuple(value_octets(value))
