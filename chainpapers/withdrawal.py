"""Whether a certificate is withdrawn, good or unknown at a time, with a paper."""

from chainpapers.views import check_asked, indices_for, newest_among, view_entries
from chainpapers.wordlists import REASONS


def withdrawn_papers(lists, newest, certificate, time):
    """Return the list of all papers that a certificate is withdrawn at a time, by its newest views, unchecked."""
    papers = []
    for view in newest:
        for entry in view_entries(lists, view):
            if entry[:2] == (certificate[1], certificate[0]) and entry[2] <= time:
                papers.append(("withdrawn",) + view + (entry,))
    return papers


def views_with(lists, newest, reason):
    """Return the list of the newest views whose family has a reason in its scope, unchecked."""
    return [view for view in newest if reason in (lists[view[0]][6][2] or REASONS)]


def paper_of(lists, newest, certificate, time):
    """Return a paper of the state of a certificate at a time, by its newest views, unchecked."""
    papers = withdrawn_papers(lists, newest, certificate, time)
    if papers:
        return papers[0]
    shown = [views_with(lists, newest, reason) for reason in REASONS]
    missing = [REASONS[at] for at in range(len(REASONS)) if not shown[at]]
    if missing:
        return ("unknown", tuple(missing))
    return ("good", tuple([views[0] for views in shown]))


def state_among(lists, indices, certificate, time, grace):
    """Return the state of a certificate at a time, by the lists with these indices, unchecked."""
    return paper_of(lists, newest_among(lists, indices, time, grace), certificate, time)[0]


def state_at(lists, sealers, certificate, time, grace):
    """Return the state of a certificate at a time, unchecked; the sealers may be more than 12."""
    return state_among(lists, indices_for(lists, sealers, certificate), certificate, time, grace)


def state_of(lists, sealers, certificate, time, grace):
    """Return any paper of the state of a certificate at a time."""
    check_asked(lists, sealers, certificate, time, grace)
    newest = newest_among(lists, indices_for(lists, sealers, certificate), time, grace)
    return paper_of(lists, newest, certificate, time)


def state_word(lists, sealers, certificate, time, grace):
    """Return the state of a certificate at a time."""
    check_asked(lists, sealers, certificate, time, grace)
    return state_at(lists, sealers, certificate, time, grace)
