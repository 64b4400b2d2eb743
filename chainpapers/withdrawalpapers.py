"""The judge of papers of the states of certificates."""

from chainpapers.basics import is_alike, is_tuple
from chainpapers.views import check_asked, indices_for, newest_among
from chainpapers.withdrawal import paper_of, views_with, withdrawn_papers
from chainpapers.wordlists import REASONS


def is_one_of(value, papers):
    """Return whether any value is just one of some values made of integers, strings and tuples."""
    for paper in papers:
        if is_alike(value, paper):
            return True
    return False


def shows_good(lists, newest, value):
    """Return whether any value is ("good", views) with a newest view for each reason, unchecked."""
    if not is_tuple(value, 2, 2) or value[0] != "good" or not is_tuple(value[1], len(REASONS), len(REASONS)):
        return False
    for at in range(len(REASONS)):
        if not is_one_of(value[1][at], views_with(lists, newest, REASONS[at])):
            return False
    return True


def takes_state(lists, sealers, certificate, time, grace, value):
    """Return whether any value is a paper of the state of a certificate at a time."""
    check_asked(lists, sealers, certificate, time, grace)
    newest = newest_among(lists, indices_for(lists, sealers, certificate), time, grace)
    paper = paper_of(lists, newest, certificate, time)
    if paper[0] == "good":
        return shows_good(lists, newest, value)
    if paper[0] == "unknown":
        return is_alike(value, paper)
    return is_one_of(value, withdrawn_papers(lists, newest, certificate, time))
