"""Reading texts sign by sign."""

from chainpapers.basics import SIGNS
from chainpapers.texterrors import BadText
from chainpapers.textforms import FORMS, form_behind

MOST_WORD = 12
MOST_WORDS = 4
DIGITS = "0123456789"


class TextReader:
    """Reads a text from its beginning on, and refuses it at the first sign with which nothing goes on.

    What is to be read is always known by the next sign, so that no sign is looked at again behind it.
    """

    def __init__(self, text):
        self.text = text
        self.place = 0

    def sign(self):
        """Return the next sign, or "" at the end."""
        return self.text[self.place:self.place + 1]

    def is_at(self, signs):
        """Return whether the next sign is one of some signs."""
        return self.sign() != "" and self.sign() in signs

    def take(self, signs):
        """Take all of these signs, one after the other."""
        for sign in signs:
            if self.sign() != sign:
                raise BadText(self.place)
            self.place += 1

    def end(self):
        """Refuse a text that goes on."""
        if self.sign() != "":
            raise BadText(self.place)

    def choose(self, words):
        """Take one of some words, none of which begins another one."""
        taken = ""
        while taken not in words:
            longer = taken + self.sign()
            if longer == taken or not [word for word in words if word.startswith(longer)]:
                raise BadText(self.place)
            taken = longer
            self.place += 1
        return taken

    def take_word(self):
        """Take a word."""
        begin = self.place
        while self.is_at(SIGNS) and self.place < begin + MOST_WORD:
            self.place += 1
        if self.place == begin:
            raise BadText(begin)
        return self.text[begin:self.place]

    def take_words(self, least):
        """Take a tuple of words, from least, which is 0 or 1, to 4."""
        if least == 0 and not self.is_at(SIGNS):
            return ()
        found = [self.take_word()]
        while len(found) < MOST_WORDS and self.is_at("/"):
            self.take("/")
            found.append(self.take_word())
        return tuple(found)

    def take_number(self, low, high):
        """Take an integer from low, which is 0 or 1, to high."""
        if not self.is_at(DIGITS) or not low <= int(self.sign()) <= high:
            raise BadText(self.place)
        found = int(self.sign())
        self.place += 1
        # Behind a leading 0 no figure goes on.
        while found > 0 and self.is_at(DIGITS) and 10 * found + int(self.sign()) <= high:
            found = 10 * found + int(self.sign())
            self.place += 1
        return found

    def take_maybe(self, high):
        """Take an integer from 0 to high, or -1 for "-"."""
        if not self.is_at("-"):
            return self.take_number(0, high)
        self.take("-")
        return -1

    def take_thing(self, name):
        """Take a thing of the form with a name."""
        form = FORMS[name]
        kind = form[0]
        if kind == "number":
            return self.take_number(form[1], form[2])
        if kind == "maybe":
            return self.take_maybe(form[1])
        if kind == "truth":
            return self.choose(("no", "yes")) == "yes"
        if kind == "choice":
            return self.choose(form[1])
        if kind == "words":
            return self.take_words(form[1])
        if kind == "word":
            return self.take_word()
        if kind == "box":
            return self.take_word() if self.is_at(SIGNS) else ""
        return self.take_made(form)

    def take_made(self, form):
        """Take a thing of a form that is made of others."""
        kind = form[0]
        if kind == "row":
            return self.take_row(form[1], form[2])
        if kind == "kinds" or kind == "tagged":
            word = self.choose([pair[0] for pair in form[1]])
            rest = self.take_thing(form_behind(form[1], word))
            return (word,) + rest if kind == "kinds" else (word, rest)
        if kind == "inside":
            return self.take_row((("(", form[1]),), ")")[0]
        if kind == "lines":
            return self.take_lines(form[1], form[2])
        return self.take_several(form)

    def take_row(self, pairs, end):
        """Take a row of things, each behind some signs, and the signs at its end."""
        found = []
        for signs, name in pairs:
            self.take(signs)
            found.append(self.take_thing(name))
        self.take(end)
        return tuple(found)

    def take_several(self, form):
        """Take several things."""
        name, least, most, begin, between, end = form[1:]
        self.take(begin)
        found = []
        if least == 1 or not self.is_at(end):
            found.append(self.take_thing(name))
        while len(found) < most and self.is_at(between):
            self.take(between)
            found.append(self.take_thing(name))
        self.take(end)
        return tuple(found)

    def take_lines(self, name, most):
        """Take lines of things, which all begin with the name of their form."""
        found = []
        while len(found) < most and self.is_at(name[:1]):
            found.append(self.take_thing(name))
            self.take("\n")
        return tuple(found)


def thing_read(sort, text):
    """Return what a text of a sort tells, which may be no such thing."""
    reader = TextReader(text)
    found = reader.take_thing(sort)
    reader.end()
    return found


def place_refused(sort, text):
    """Return the place at which a text of a sort is refused, or None."""
    try:
        thing_read(sort, text)
    except BadText as error:
        return error.place
    return None
