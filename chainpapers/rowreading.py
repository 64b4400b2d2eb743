"""Reading rows of values octet by octet."""

from chainpapers.basics import SIGNS
from chainpapers.valuelimits import MOST_DEEP, MOST_ITEMS, MOST_SIGNS

SIGN_STRETCHES = ((48, 57), (97, 122))
MODES = ("number", "length", "items", "truth")


def sign_of(code):
    """Return the sign "0" to "9" or "a" to "z" with a code."""
    return SIGNS[code - 48] if code < 97 else SIGNS[code - 87]


class RowReader:
    """Reads the row of one value; what it may take next is told by stretches (low, high) of octets."""

    def __init__(self):
        self.mode = "start"
        self.opened = []
        self.lengths = []
        self.groups = []
        self.word = ""
        self.left = 0
        self.value = None

    def is_whole(self):
        """Return whether the row of a value is read, which is the attribute value then."""
        return self.mode == "whole"

    def stretches(self):
        """Return the ascending stretches of octets with which the row goes on."""
        if self.mode == "start":
            return ((1, 2), (4, 4)) if len(self.opened) == MOST_DEEP else ((1, 4),)
        if self.mode == "number":
            return self.group_stretches()
        if self.mode == "length":
            return ((0, MOST_SIGNS),)
        if self.mode == "signs":
            return SIGN_STRETCHES
        if self.mode == "items":
            return ((0, MOST_ITEMS),)
        return ((0, 1),) if self.mode == "truth" else ()

    def group_stretches(self):
        """Return the stretches of octets with which a number goes on."""
        if not self.groups:
            return ((0, 255),)
        # A fifth group counts 2 ** 28 each, and the greatest number is 16 of these and no more.
        if len(self.groups) == 4:
            return ((1, 15),) if any(self.groups) else ((1, 16),)
        return ((1, 255),)

    def take(self, octet):
        """Take an octet of the stretches."""
        if self.mode == "start":
            self.mode = MODES[octet - 1]
        elif self.mode == "number":
            self.take_group(octet)
        elif self.mode == "length":
            self.take_length(octet)
        elif self.mode == "signs":
            self.take_sign(octet)
        elif self.mode == "items":
            self.take_items(octet)
        else:
            self.end_value(octet == 1)

    def take_group(self, octet):
        """Take a group of seven bits, the last one of a number if it is below 128."""
        self.groups.append(octet % 128)
        if octet >= 128:
            return
        number = 0
        for group in reversed(self.groups):
            number = number * 128 + group
        self.groups = []
        self.end_value(number - 1)

    def take_length(self, octet):
        """Take the length of a string."""
        self.word = ""
        self.left = octet
        self.mode = "signs"
        if octet == 0:
            self.end_value("")

    def take_sign(self, octet):
        """Take the code of a sign."""
        self.word = self.word + sign_of(octet)
        self.left = self.left - 1
        if self.left == 0:
            self.end_value(self.word)

    def take_items(self, octet):
        """Take the length of a tuple."""
        if octet == 0:
            self.end_value(())
            return
        self.opened.append([])
        self.lengths.append(octet)
        self.mode = "start"

    def end_value(self, value):
        """Put a value that is whole where it belongs, and each tuple that is whole by it."""
        while self.opened:
            self.opened[-1].append(value)
            if len(self.opened[-1]) < self.lengths[-1]:
                self.mode = "start"
                return
            self.lengths.pop()
            value = tuple(self.opened.pop())
        self.value = value
        self.mode = "whole"


def is_in_stretches(octet, stretches):
    """Return whether an octet is in one of some stretches."""
    for low, high in stretches:
        if low <= octet <= high:
            return True
    return False


def octets_in(stretches):
    """Return the ascending tuple of all octets in ascending stretches."""
    octets = []
    for low, high in stretches:
        octets.extend(list(range(low, high + 1)))
    return tuple(octets)


def read_on(reader, row, at):
    """Let a reader take the octets from a place on; return the first place that it does not take, or the length."""
    while at < len(row) and is_in_stretches(row[at], reader.stretches()):
        reader.take(row[at])
        at += 1
    return at


def next_octets(reader, row):
    """Return the octets with which a row goes on, by a fresh reader, or None if none begins with it."""
    if read_on(reader, row, 0) < len(row):
        return None
    return octets_in(reader.stretches())


def place_refused(reader, row):
    """Return the place at which a row is refused by a fresh reader, or None if it is the row of a value."""
    at = read_on(reader, row, 0)
    if reader.is_whole() and at == len(row):
        return None
    return at
