"""The rules of a walk that look at one certificate, each by itself and unchecked."""

from chainpapers.certificates import issues_itself, part_in
from chainpapers.regions import is_title_in
from chainpapers.rights import purposes_in, uses_in
from chainpapers.walkstates import other_names_in, titles_in


def has_all(held, asked):
    """Return whether all that is asked is among what is held."""
    for word in asked:
        if word not in held:
            return False
    return True


def is_lasting(question, certificate):
    """Return whether a certificate lasts at the time of a question."""
    return certificate[5] <= question[1] <= certificate[6]


def bar_of_state(question, state):
    """Return "withdrawn" or "unknown", if it bars a certificate where the question's states are not "no", or None."""
    is_barred = state == "withdrawn" or (state == "unknown" and question[6][0] == "must")
    return state if is_barred else None


def is_odd_must(certificate):
    """Return whether a certificate has an odd part that is a must."""
    odd = part_in(certificate, "odd")
    return odd is not None and odd[0]


def is_asked_for_names(certificate, is_target):
    """Return whether the titles of a certificate matter: not those of a self-issued one on the way."""
    return is_target or not issues_itself(certificate)


def is_named(region, certificate, is_target):
    """Return whether a certificate has no titles but those in a region, or is not asked for it."""
    if not is_asked_for_names(certificate, is_target):
        return True
    for title in titles_in(certificate):
        if not is_title_in(region, title):
            return False
    return True


def has_purposes(question, certificate):
    """Return whether a certificate has all purposes that a question asks for."""
    return has_all(purposes_in(certificate), question[3])


def can_certify(certificate):
    """Return whether a certificate has the use "certs"."""
    return "certs" in uses_in(certificate)


def has_uses(question, certificate):
    """Return whether a certificate has all uses that a question asks for."""
    return has_all(uses_in(certificate), question[2])


def has_wanted_names(question, certificate):
    """Return whether a certificate has all other names that a question asks for."""
    return has_all(other_names_in(certificate), question[4])


def subtrees_in(certificate, word):
    """Return the permitted or the excluded subtrees of a certificate, () without the part."""
    subtrees = part_in(certificate, word)
    return () if subtrees is None else subtrees


def subtrees_told(certificate):
    """Return the pair of the permitted and the excluded subtrees of a certificate."""
    return (subtrees_in(certificate, "permitted"), subtrees_in(certificate, "excluded"))
