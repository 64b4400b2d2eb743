"""Spans of numbers: ascending pairs (low, high) that do not touch."""

from chainpapers.basics import are_all, is_tuple
from chainpapers.names import is_named_number

# Which pairs of being in one and being in the other one make what is returned, of spans and of marks.
IN_BOTH = ((True, True),)
IN_ANY = ((True, True), (True, False), (False, True))
IN_FIRST = ((True, False),)


def is_span(value):
    """Return whether any value is a pair (low, high) of numbers."""
    if not is_tuple(value, 2, 2) or not is_named_number(value[0]) or not is_named_number(value[1]):
        return False
    return value[0] <= value[1]


def are_apart(spans):
    """Return whether spans ascend, each low being greater by 2 or more than the high ahead."""
    for at in range(1, len(spans)):
        if spans[at][0] < spans[at - 1][1] + 2:
            return False
    return True


def are_spans(value):
    """Return whether any value is a tuple of spans of numbers that do not touch."""
    return isinstance(value, tuple) and are_all(value, is_span) and are_apart(value)


def is_in_spans(spans, number):
    """Return whether a number is in one of some spans."""
    for low, high in spans:
        if low <= number <= high:
            return True
    return False


def turns_of(spans):
    """Return a dict that tells, for each number at which some spans begin or are over, which of the two."""
    turns = {}
    for low, high in spans:
        turns[low] = True
        turns[high + 1] = False
    return turns


def combined_spans(one, other, wanted):
    """Return the spans of the numbers whose being in one and in other spans is a pair that is wanted.

    No pair that is wanted is (False, False), so that all spans have an end.
    """
    first = turns_of(one)
    second = turns_of(other)
    is_first = False
    is_second = False
    spans = []
    begin = None
    for number in sorted(set(list(first) + list(second))):
        is_first = first.get(number, is_first)
        is_second = second.get(number, is_second)
        if (is_first, is_second) not in wanted:
            if begin is not None:
                spans.append((begin, number - 1))
            begin = None
        elif begin is None:
            begin = number
    return tuple(spans)


def has_all_spans(one, other):
    """Return whether all numbers of other spans are in one spans."""
    for low, high in other:
        # Spans do not touch, so that several never make up for one.
        if True not in [first <= low and high <= last for first, last in one]:
            return False
    return True
