"""Deeds on stores: things put in and taken out, told by their texts."""

from chainpapers.certificates import check_certificate
from chainpapers.errors import TooMany
from chainpapers.stores import check_anchor, check_list
from chainpapers.texterrors import IsThere, NotThere
from chainpapers.textreader import TextReader, thing_read
from chainpapers.textwriting import text_of

# Of each sort the place in a store, in order, and how many of it there may be.
THINGS = ("certificate", "list", "anchor")
MOST_THINGS = (30, 12, 6)


def sort_of(text):
    """Return the place in stores of the sort of things that the first word of a text tells."""
    reader = TextReader(text)
    return THINGS.index(reader.choose(THINGS))


def check_thing(at, thing):
    """Raise the error of what is no certificate, list or anchor, by the place in stores."""
    if at == 0:
        check_certificate(thing)
    elif at == 1:
        check_list(thing)
    else:
        check_anchor(thing)


def thing_told(text):
    """Return the place in stores and the certificate, list or anchor that a text tells."""
    at = sort_of(text)
    thing = thing_read(THINGS[at], text)
    check_thing(at, thing)
    return (at, thing)


def with_things(store, at, things):
    """Return a store with other things, in their order, at a place."""
    return store[:at] + (tuple(sorted(things)),) + store[at + 1:]


def with_thing(store, at, thing):
    """Return a store with a thing more at a place; it is looked at first whether it is there, then for how many."""
    if thing in store[at]:
        raise IsThere("this is there already")
    if len(store[at]) == MOST_THINGS[at]:
        raise TooMany(MOST_THINGS[at])
    return with_things(store, at, store[at] + (thing,))


def without_thing(store, at, thing):
    """Return a store without a thing at a place."""
    if thing not in store[at]:
        raise NotThere("this is not there")
    return with_things(store, at, [other for other in store[at] if other != thing])


def store_behind(store, deed, text):
    """Return the store behind the deed "put" or "out" with a text."""
    at, thing = thing_told(text)
    return with_thing(store, at, thing) if deed == "put" else without_thing(store, at, thing)


def thing_text(at, thing):
    """Return the text of a thing at a place of stores."""
    return text_of(THINGS[at], thing)
