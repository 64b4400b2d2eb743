"""Policy rows: one word for each certificate, each leading to the next one by itself or by a mapping."""

from chainpapers.basics import is_tuple, is_word
from chainpapers.certificates import check_certificate, part_in
from chainpapers.errors import InvalidPolicy, InvalidRow, TooMany
from chainpapers.names import are_words
from chainpapers.policyparts import all_numbers, check_numbers, check_path, check_truth, is_any_barred

ANY = "any"
MOST_ROWS = 1000


def check_word(word):
    """Raise InvalidPolicy for what is neither a policy nor "any"; these are just all words."""
    if not is_word(word):
        raise InvalidPolicy("this is no policy, and not any")


def mappings_in(certificate):
    """Return the mappings of a certificate, () without the part, unchecked."""
    mappings = part_in(certificate, "mappings")
    return () if mappings is None else mappings


def words_taken(numbers, certificate, is_last, expected):
    """Return the words that can be taken at a certificate from an expected word, ascending, unchecked."""
    policies = part_in(certificate, "policies")
    if policies is None:
        return ()
    is_open = ANY in policies and not is_any_barred(numbers, certificate, is_last)
    if expected != ANY:
        return (expected,) if is_open or expected in policies else ()
    words = [word for word in policies if word != ANY or is_open]
    if is_open and not is_last:
        words.extend([first for first, _ in mappings_in(certificate)])
    return tuple(sorted(set(words)))


def words_expected(numbers, certificate, word):
    """Return the expected words to which a word leads behind a certificate, ascending, unchecked."""
    # Of "any" there is no mapping, so that it leads to itself.
    mapped = [second for first, second in mappings_in(certificate) if first == word]
    if not mapped:
        return (word,)
    return tuple(mapped) if numbers[1] != 0 else ()


def words_behind(along, path, row):
    """Return the list of the words that can follow a row of the first certificates, ascending, unchecked.

    They ascend, as a policy leads to no words but the expected ones themselves, and these are unlike.
    """
    at = len(row)
    expected = words_expected(along[at - 1], path[at - 1], row[-1]) if at > 0 else (ANY,)
    words = []
    for word in expected:
        words.extend(words_taken(along[at], path[at], at == len(path) - 1, word))
    return words


def is_row_along(numbers, path, value):
    """Return whether any value is a policy row of all certificates, the others unchecked."""
    if not is_tuple(value, len(path), len(path)):
        return False
    along = all_numbers(numbers, path)
    for at in range(len(path)):
        if value[at] not in words_behind(along, path, value[:at]):
            return False
    return True


def first_policy(row):
    """Return the first word of a row that is not "any", or "any", unchecked."""
    for word in row:
        if word != ANY:
            return word
    return ANY


def words_from(numbers, certificate, is_last, expected):
    """Return the ascending tuple of the words that can be taken at a certificate from an expected word."""
    check_numbers(numbers)
    check_certificate(certificate)
    check_truth(is_last)
    check_word(expected)
    return words_taken(numbers, certificate, is_last, expected)


def expected_from(numbers, certificate, word):
    """Return the ascending tuple of the expected words to which a word leads behind a certificate."""
    check_numbers(numbers)
    check_certificate(certificate)
    check_word(word)
    return words_expected(numbers, certificate, word)


def is_policy_row(numbers, path, value):
    """Return whether any value is a policy row of all certificates of a path."""
    check_numbers(numbers)
    check_path(path)
    return is_row_along(numbers, path, value)


def policy_rows(numbers, path):
    """Return the ascending list of all policy rows of all certificates of a path, of which there are not too many."""
    check_numbers(numbers)
    check_path(path)
    along = all_numbers(numbers, path)
    rows = [()]
    for _ in path:
        longer = []
        for row in rows:
            longer.extend([row + (word,) for word in words_behind(along, path, row)])
        if len(longer) > MOST_ROWS:
            raise TooMany(MOST_ROWS)
        rows = longer
    return rows


def origin_of(row):
    """Return the first word of a row other than "any", or "any" if there is none."""
    if not are_words(row, 0, 8):
        raise InvalidRow("this is no tuple of 0 to 8 words")
    return first_policy(row)
