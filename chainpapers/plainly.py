"""What bars a path, each constraint looked at by itself over the whole path."""

from chainpapers.basics import is_integer
from chainpapers.errors import InvalidNumber
from chainpapers.plainrules import PlainRules
from chainpapers.walks import check_walk
from chainpapers.wordlists import BAR_REASONS


def plain_bars(store, question, anchor, path):
    """Return the plain bars of a path from an anchor."""
    check_walk(store, question, anchor, path)
    rules = PlainRules(store, question)
    return rules.bars_along(anchor, path)


def reason_word(number):
    """Return the reason with a number."""
    if not is_integer(number, 0, len(BAR_REASONS) - 1):
        raise InvalidNumber("a reason has a number from 0 to 15")
    return BAR_REASONS[number]
