"""What several tests share: odd values, spoiled values, and the order of errors."""

import copy
import doctest
import unittest

from chainpapers import errors
from chainpapers.rowreading import RowReader


def nested(value, deep, make=tuple):
    for _ in range(deep):
        value = make([value])
    return value


# Values of every sort that may be handed in anywhere.
ANY_VALUES = [
    None, True, False, 0, 1, -1, 2 ** 32, 10 ** 119, -10 ** 119, "", "a", "any", "A", "a b", "\n", "~" * 20000,
    [], [0], ["a"], (), (0,), ("a",), (None,), ((),), ([],), ((), ()), [()], (True,), ("a", "b"), (1, 2, 3),
    ("House",), ("house", 1), ("letter", 1, 2), ("number", None), (None, ("a",)), ([], ()),
    nested((), 99), nested([], 99, list), (0,) * 20000, ("a",) * 20000, ((),) * 20000, [0] * 20000,
    (None,) * 3, (None,) * 4, (None,) * 5, (None,) * 9, ((),) * 3, ((),) * 4, ((),) * 9, ([],) * 9,
    errors.ChainError("x"), errors.TooMany(3), (errors.BadRow(2),), RowReader(), (RowReader(),) * 9,
]


def spoiled(value):
    """Yield copies of a value in which one tuple is a list, or one item of another sort: True for 1, say."""
    if isinstance(value, bool):
        yield int(value)
        yield None
    elif isinstance(value, int):
        if value in (0, 1):
            yield bool(value)
        yield str(value) if value >= 0 else None
        yield (value,)
        yield None
    elif isinstance(value, str):
        yield None
        yield 0
        yield [value]
        yield (value,)
    elif isinstance(value, tuple):
        yield list(value)
        yield None
        yield 7
        for at, item in enumerate(value):
            for other in spoiled(item):
                yield value[:at] + (other,) + value[at + 1:]


class Case(unittest.TestCase):
    """A test with a few checks more."""

    maxDiff = None

    def takes_just(self, predicate, good, bad):
        """Check that a predicate tells exactly True of the good values, and False of the bad and of odd ones."""
        good = list(good)
        for value in good:
            self.assertIs(predicate(value), True, value)
        for value in bad:
            self.assertIs(predicate(value), False, value)
        for value in ANY_VALUES:
            self.assertIs(predicate(value), any(same(value, one) for one in good), str(value)[:200])

    def takes_no_spoiled(self, predicate, good):
        """Check that a predicate tells False of good values that are spoiled anywhere."""
        for value in good:
            self.assertIs(predicate(value), True, value)
            for other in spoiled(value):
                self.assertIs(predicate(other), False, other)

    def raises(self, error, function, *arguments, **attributes):
        """Check that a call raises just this error, with these attributes, and changes no argument."""
        before = [repr(argument) for argument in arguments]
        try:
            found = function(*arguments)
        except errors.ChainError as caught:
            self.assertIs(caught.__class__, error, (function.__name__, before))
            for name, value in attributes.items():
                self.assertEqual(getattr(caught, name), value, (function.__name__, before))
        else:
            self.fail(f"{function.__name__}{tuple(before)} returned {found!r}"[:2000])
        self.assertEqual([repr(argument) for argument in arguments], before)

    def checks(self, function, good, wrong):
        """Check which errors a function raises for wrong arguments, and that the first wrong one counts.

        good holds arguments with which it returns; wrong a pair (wrong values, error) for each of them, or None for
        one that may be any value. Each wrong value is tried with right ones and with wrong ones behind it.
        """
        function(*good)
        for at, pair in enumerate(wrong):
            if pair is None:
                continue
            values, error = pair
            for value in values:
                self.raises(error, function, *good[:at], value, *good[at + 1:])
                rest = [good[other] if wrong[other] is None else wrong[other][0][0] for other in range(len(good))]
                self.raises(error, function, *good[:at], value, *rest[at + 1:])

    def keeps(self, function, *arguments):
        """Return what a call returns, after a check that it changes no argument and returns the same again."""
        before = copy.deepcopy(arguments)
        found = function(*arguments)
        self.assertEqual(repr(arguments), repr(before))
        again = function(*arguments)
        self.assertEqual(repr(found), repr(again))
        if isinstance(found, list):
            self.assertIsNot(found, again)
        return found

    def shows(self, text, names):
        """Run examples as the document writes them, with these names known."""
        test = doctest.DocTestParser().get_doctest(text, names, self.id(), None, 0)
        self.assertTrue(test.examples)
        told = []
        doctest.DocTestRunner(verbose=False).run(test, out=told.append)
        self.assertEqual("".join(told), "")


def same(one, other):
    """Return whether two values are equal and of the same sorts throughout (True is no 1, no list a tuple)."""
    return repr(one) == repr(other)


def odd_values(*but):
    """Return all odd values but these."""
    return [value for value in ANY_VALUES if not any(same(value, one) for one in but)]
