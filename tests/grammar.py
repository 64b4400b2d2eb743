"""What can be read, told as a grammar: a form is a function from a text and a place to all places where it may end.

Each form tells a Text how far some text like it goes, so that the place where a text is refused is the furthest one.
"""

SIGNS = "abcdefghijklmnopqrstuvwxyz0123456789"
USES = ("agree", "certs", "lists", "sign")
PURPOSES = ("call", "serve", "sign", "stamp")
REASONS = ("ceased", "changed", "head", "hold", "key", "replaced", "rights")


class Text:
    """A text, and the furthest place at which a sign was looked at."""

    def __init__(self, text):
        self.text, self.furthest = text, 0

    def at(self, place):
        self.furthest = max(self.furthest, place)
        return self.text[place:place + 1]


def sign(signs):
    """One of some signs."""
    return lambda text, place: {place + 1} if text.at(place) and text.at(place) in signs else set()


def row(*forms):
    """One form behind the other."""
    def ends(text, place):
        places = {place}
        for form in forms:
            places = set().union(*(form(text, one) for one in places))
        return places
    return ends


def one_of(*forms):
    return lambda text, place: set().union(*(form(text, place) for form in forms))


def word_of(letters):
    return row(*(sign(letter) for letter in letters))


def some_word(*words):
    return one_of(*(word_of(word) for word in words))


def times(form, least, most, between=row()):
    """A form, from least to most times."""
    def ends(text, place):
        found = {place} if least == 0 else set()
        places = {place}
        for many in range(1, most + 1):
            ahead = row(between, form) if many > 1 else form
            places = set().union(*(ahead(text, one) for one in places))
            found |= places if many >= least else set()
        return found
    return ends


def number(least, most):
    """The figures of all integers from least, which is 0 or 1, to most: sign by sign those that some of them has."""
    figures = str(most)
    forms = [word_of("0")] if least == 0 else []
    forms += [row(sign("123456789"), times(sign("0123456789"), many, many)) for many in range(len(figures) - 1)]
    for at, figure in enumerate(figures):
        lower = "".join(str(one) for one in range(1 if at == 0 else 0, int(figure)))
        rest = len(figures) - at - 1
        forms.append(row(word_of(figures[:at]), sign(lower), times(sign("0123456789"), rest, rest)))
    return one_of(word_of(figures), *forms)


def several(form, least, most):
    return row(word_of("["), times(form, least, most, word_of(",")), word_of("]"))


def blanks(*forms):
    """Forms with one blank between."""
    return row(forms[0], *(row(word_of(" "), form) for form in forms[1:]))


WORD = times(sign(SIGNS), 1, 12)
NAME = times(WORD, 1, 4, word_of("/"))
WORDS = times(WORD, 0, 4, word_of("/"))
TRUTH = some_word("no", "yes")
KEY = number(0, 2 ** 32 - 1)
TIME = number(0, 10 ** 9)
SERIAL = number(0, 10 ** 6)
NAMED = number(0, 65535)
DEPTH = one_of(word_of("-"), number(0, 8))
OTHER = one_of(row(word_of("house("), NAME, word_of(")")), row(word_of("letter("), WORD, word_of("@"), NAME, word_of(")")),
               row(word_of("number("), NAMED, word_of(")")))
SUBTREE = one_of(row(some_word("house", "name"), word_of("("), WORDS, word_of(")")),
                 row(word_of("letter("), times(WORD, 0, 1), word_of("@"), WORDS, word_of(")")),
                 row(word_of("number("), NAMED, word_of(".."), NAMED, word_of(")")))
PART = one_of(
    row(word_of("anylimit("), number(0, 8), word_of(")")),
    row(word_of("basic("), TRUTH, word_of(","), DEPTH, word_of(")")),
    row(word_of("odd("), TRUTH, word_of(","), WORD, word_of(")")),
    row(word_of("policylimits("), DEPTH, word_of(","), DEPTH, word_of(")")),
    row(some_word("excluded", "permitted"), several(SUBTREE, 1, 8)),
    row(word_of("lists"), several(NAME, 1, 4)),
    row(word_of("mappings"), several(row(WORD, word_of(">"), WORD), 1, 8)),
    row(word_of("names"), several(OTHER, 1, 8)),
    row(word_of("policies"), several(WORD, 1, 8)),
    row(word_of("purposes"), several(some_word("any", *PURPOSES), 0, 8)),
    row(word_of("uses"), several(some_word(*USES), 0, 8)))
CERTIFICATE = blanks(word_of("certificate"), SERIAL, NAME, NAME, KEY, KEY, TIME, TIME,
                     row(word_of("{"), times(PART, 0, 12, word_of(" ")), word_of("}")), KEY)
ENTRY = row(NAME, word_of(":"), SERIAL, word_of(":"), TIME, word_of(":"), some_word("back", *REASONS))
LIST = blanks(word_of("list"), NAME, KEY, SERIAL, one_of(word_of("-"), SERIAL), TIME, TIME, some_word("all", "heads", "users"), TRUTH,
              several(some_word(*REASONS), 0, 6), several(ENTRY, 0, 30), KEY)
ANCHOR = blanks(word_of("anchor"), NAME, KEY, several(SUBTREE, 0, 8), several(SUBTREE, 0, 8), DEPTH)
QUESTION = blanks(word_of("question"), number(0, 29), TIME, several(some_word(*USES), 0, 4), several(some_word(*PURPOSES), 0, 4),
                  several(OTHER, 0, 8), several(WORD, 1, 8), some_word("may", "must", "no"), number(0, 10 ** 6), DEPTH, DEPTH, DEPTH,
                  number(1, 8), several(row(NAME, word_of(":"), KEY), 0, 12))
LINE = word_of("\n")
STORE = row(times(row(CERTIFICATE, LINE), 0, 30), times(row(LIST, LINE), 0, 12), times(row(ANCHOR, LINE), 0, 6))
FORMS = {"name": NAME, "other": OTHER, "subtree": SUBTREE, "certificate": CERTIFICATE, "list": LIST, "anchor": ANCHOR,
         "question": QUESTION, "store": STORE}


def told_refused(sort, text):
    """The place at which a text of a sort is refused, or None."""
    looked = Text(text)
    ends = FORMS[sort](looked, 0)
    if len(text) in ends:
        return None
    for place in ends:
        looked.at(place)
    return looked.furthest
