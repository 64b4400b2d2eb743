"""Views: whole lists, alone or with a delta laid on them, that reach a certificate."""

from chainpapers.certificates import check_certificate
from chainpapers.deltas import entries_laid, fits_on, is_whole
from chainpapers.reaching import check_grace, check_lists, check_sealers, could_reach, family_in, is_in_time
from chainpapers.times import check_time

NO_DELTA = -1


def indices_for(lists, sealers, certificate):
    """Return the list of the indices of all lists that reach a certificate at some time, unchecked."""
    return [at for at in range(len(lists)) if could_reach(lists[at], sealers, certificate)]


def views_among(lists, indices, time, grace):
    """Return the ascending list of the views of a certificate at a time, of the lists with these indices, unchecked."""
    there = [at for at in indices if is_in_time(lists[at], time, grace)]
    views = []
    for at in there:
        if is_whole(lists[at]):
            views.append((at, NO_DELTA))
            views.extend([(at, other) for other in there if fits_on(lists[at], lists[other])])
    return views


def view_number(lists, view):
    """Return the number of a view."""
    index, other = view
    return lists[index if other == NO_DELTA else other][2]


def view_entries(lists, view):
    """Return the entries of a view."""
    index, other = view
    return lists[index][7] if other == NO_DELTA else entries_laid(lists[index], lists[other])


def newest_among(lists, indices, time, grace):
    """Return the ascending list of the newest views, of the lists with these indices, unchecked."""
    views = views_among(lists, indices, time, grace)
    newest = {}
    for view in views:
        family = family_in(lists[view[0]])
        newest[family] = max(view_number(lists, view), newest.get(family, 0))
    return [view for view in views if view_number(lists, view) == newest[family_in(lists[view[0]])]]


def check_asked(lists, sealers, certificate, time, grace):
    """Raise the error of the first argument that is wrong."""
    check_lists(lists)
    check_sealers(sealers)
    check_certificate(certificate)
    check_time(time)
    check_grace(grace)


def views_of(lists, sealers, certificate, time, grace):
    """Return the ascending list of the views of a certificate at a time."""
    check_asked(lists, sealers, certificate, time, grace)
    return views_among(lists, indices_for(lists, sealers, certificate), time, grace)


def newest_views(lists, sealers, certificate, time, grace):
    """Return the ascending list of the newest views of a certificate at a time."""
    check_asked(lists, sealers, certificate, time, grace)
    return newest_among(lists, indices_for(lists, sealers, certificate), time, grace)
