"""Texts of names, certificates, lists, anchors, questions and stores, and what is read from them."""

from chainpapers.certificates import check_certificate
from chainpapers.errors import InvalidName
from chainpapers.names import is_name, is_other_name
from chainpapers.stores import check_anchor, check_list, check_question, check_store
from chainpapers.subtrees import check_subtree
from chainpapers.texterrors import InvalidSort, InvalidText
from chainpapers.textreader import place_refused, thing_read
from chainpapers.textwriting import text_of

MOST_CHARACTERS = 20000
SORTS = ("anchor", "certificate", "list", "name", "other", "question", "store", "subtree")


def check_text(text):
    """Raise InvalidText for what is no string of at most 20000 characters."""
    if not isinstance(text, str) or len(text) > MOST_CHARACTERS:
        raise InvalidText("a text is a string of at most 20000 characters")


def write_name(name):
    """Return the text of a name."""
    if not is_name(name):
        raise InvalidName("this is no name")
    return text_of("name", name)


def write_other(other):
    """Return the text of an other name."""
    if not is_other_name(other):
        raise InvalidName("this is no other name")
    return text_of("other", other)


def write_subtree(subtree):
    """Return the text of a subtree."""
    check_subtree(subtree)
    return text_of("subtree", subtree)


def write_certificate(certificate):
    """Return the text of a certificate."""
    check_certificate(certificate)
    return text_of("certificate", certificate)


def write_list(own):
    """Return the text of a list."""
    check_list(own)
    return text_of("list", own)


def write_anchor(anchor):
    """Return the text of an anchor."""
    check_anchor(anchor)
    return text_of("anchor", anchor)


def write_question(store, question):
    """Return the text of a question of a store."""
    check_store(store)
    check_question(store, question)
    return text_of("question", question)


def write_store(store):
    """Return the text of a store."""
    check_store(store)
    return text_of("store", store)


def read_name(text):
    """Return the name that a text tells."""
    check_text(text)
    return thing_read("name", text)


def read_other(text):
    """Return the other name that a text tells."""
    check_text(text)
    return thing_read("other", text)


def read_subtree(text):
    """Return the subtree that a text tells."""
    check_text(text)
    found = thing_read("subtree", text)
    check_subtree(found)
    return found


def read_certificate(text):
    """Return the certificate that a text tells."""
    check_text(text)
    found = thing_read("certificate", text)
    check_certificate(found)
    return found


def read_list(text):
    """Return the list that a text tells."""
    check_text(text)
    found = thing_read("list", text)
    check_list(found)
    return found


def read_anchor(text):
    """Return the anchor that a text tells."""
    check_text(text)
    found = thing_read("anchor", text)
    check_anchor(found)
    return found


def read_question(store, text):
    """Return the question of a store that a text tells."""
    check_store(store)
    check_text(text)
    found = thing_read("question", text)
    check_question(store, found)
    return found


def read_store(text):
    """Return the store that a text tells."""
    check_text(text)
    found = thing_read("store", text)
    check_store(found)
    return found


def first_refused(sort, text):
    """Return the index at which a text of a sort is refused, or None."""
    if sort not in SORTS:
        raise InvalidSort("there are no texts of this sort")
    check_text(text)
    return place_refused(sort, text)
