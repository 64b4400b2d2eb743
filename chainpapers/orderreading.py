"""Reading ordered rows of values octet by octet."""

from chainpapers.rowreading import SIGN_STRETCHES, sign_of
from chainpapers.valuelimits import MOST_DEEP, MOST_ITEMS, MOST_SIGNS

ORDER_MODES = ("truth", "digits", "signs")


class OrderReader:
    """Reads the ordered row of one value; what it may take next is told by stretches (low, high) of octets."""

    def __init__(self):
        self.mode = "start"
        self.opened = []
        self.digits = []
        self.word = ""
        self.value = None

    def is_whole(self):
        """Return whether the ordered row of a value is read, which is the attribute value then."""
        return self.mode == "whole"

    def stretches(self):
        """Return the ascending stretches of octets with which the ordered row goes on."""
        if self.mode == "start":
            return self.item_stretches()
        if self.mode == "digits":
            return self.digit_stretches()
        if self.mode == "signs":
            return ((0, 0),) if len(self.word) == MOST_SIGNS else ((0, 0),) + SIGN_STRETCHES
        return ((0, 1),) if self.mode == "truth" else ()

    def item_stretches(self):
        """Return the stretches of octets with which a value begins, or the tuple around it ends."""
        if not self.opened:
            return ((1, 4),)
        if len(self.opened[-1]) == MOST_ITEMS:
            return ((0, 0),)
        return ((0, 3),) if len(self.opened) == MOST_DEEP else ((0, 4),)

    def digit_stretches(self):
        """Return the stretches of octets with which an integer goes on."""
        if not self.digits:
            return ((0, 1),)
        # The number written is at most 256 ** 4.
        return ((0, 0),) if self.digits[0] == 1 else ((0, 255),)

    def take(self, octet):
        """Take an octet of the stretches."""
        if self.mode == "start":
            self.begin_value(octet)
        elif self.mode == "digits":
            self.take_digit(octet)
        elif self.mode == "signs":
            self.take_sign(octet)
        else:
            self.end_value(octet == 1)

    def begin_value(self, octet):
        """Take the octet with which a value begins, or that with which a tuple ends."""
        if octet == 0:
            self.end_value(tuple(self.opened.pop()))
        elif octet == 4:
            self.opened.append([])
        else:
            self.mode = ORDER_MODES[octet - 1]
            self.digits = []
            self.word = ""

    def take_digit(self, octet):
        """Take one of the five digits of an integer."""
        self.digits.append(octet)
        if len(self.digits) < 5:
            return
        number = 0
        for digit in self.digits:
            number = number * 256 + digit
        self.end_value(number - 1)

    def take_sign(self, octet):
        """Take the code of a sign, or the end of a string."""
        if octet == 0:
            self.end_value(self.word)
        else:
            self.word = self.word + sign_of(octet)

    def end_value(self, value):
        """Put a value that is whole into the tuple around it."""
        if self.opened:
            self.opened[-1].append(value)
            self.mode = "start"
        else:
            self.value = value
            self.mode = "whole"
