"""Rows of certificates, lists, anchors, stores and questions, and what is read from them."""

from chainpapers.certificates import check_certificate
from chainpapers.errors import TooMany
from chainpapers.rowwriting import value_row
from chainpapers.seals import MOST_OCTETS
from chainpapers.stores import check_anchor, check_list, check_question, check_store
from chainpapers.valuerows import read_value


def anchor_row(anchor):
    """Return the row of an anchor."""
    check_anchor(anchor)
    return value_row(anchor)


def store_row(store):
    """Return the row of a store, which must not be too long."""
    check_store(store)
    row = value_row(store)
    if len(row) > MOST_OCTETS:
        raise TooMany(MOST_OCTETS)
    return row


def question_row(store, question):
    """Return the row of a question of a store."""
    check_store(store)
    check_question(store, question)
    return value_row(question)


def read_certificate(row):
    """Return the certificate that has a row."""
    certificate = read_value(row)
    check_certificate(certificate)
    return certificate


def read_list(row):
    """Return the list that has a row."""
    own = read_value(row)
    check_list(own)
    return own


def read_anchor(row):
    """Return the anchor that has a row."""
    anchor = read_value(row)
    check_anchor(anchor)
    return anchor


def read_store(row):
    """Return the store that has a row."""
    store = read_value(row)
    check_store(store)
    return store


def read_question(store, row):
    """Return the question of a store that has a row."""
    check_store(store)
    question = read_value(row)
    check_question(store, question)
    return question
