"""Chains that hang together, with all that bars them."""

from chainpapers.paths import all_hanging
from chainpapers.plainrules import PlainRules
from chainpapers.stores import check_question, check_store


def flaws_of(store, question):
    """Return the list of the pairs (chain, plain bars) of all chains that hang together, in order, unchecked."""
    rules = PlainRules(store, question)
    return [(chain, rules.bars_along(chain[0], chain[1])) for chain in all_hanging(store, question)]


def hanging_chains(store, question):
    """Return the list of all chains that hang together, in order."""
    check_store(store)
    check_question(store, question)
    return all_hanging(store, question)


def flawed_chains(store, question):
    """Return the list of the pairs (chain, plain bars) of all chains that hang together, in order."""
    check_store(store)
    check_question(store, question)
    return flaws_of(store, question)


def least_flawed(store, question):
    """Return the first chain with the fewest plain bars, and these, or None if no chain hangs together."""
    check_store(store)
    check_question(store, question)
    found = flaws_of(store, question)
    if not found:
        return None
    fewest = min([len(bars) for _, bars in found])
    return [pair for pair in found if len(pair[1]) == fewest][0]
