"""Which lists of withdrawal reach a certificate."""

from chainpapers.certificates import check_certificate, is_head, part_in
from chainpapers.errors import InvalidList, InvalidNumber, InvalidSealers
from chainpapers.sealing import is_list_sealed
from chainpapers.stores import are_lists, are_sealers, check_list, is_grace
from chainpapers.times import check_time


def check_lists(lists):
    """Raise InvalidList for what is no ascending tuple of 0 to 12 lists."""
    if not are_lists(lists):
        raise InvalidList("these are no lists")


def check_sealers(sealers):
    """Raise InvalidSealers for what are no sealers."""
    if not are_sealers(sealers):
        raise InvalidSealers("these are no sealers")


def check_grace(grace):
    """Raise InvalidNumber for what is no grace."""
    if not is_grace(grace):
        raise InvalidNumber("a grace is an integer from 0 to 1000000")


def names_of_lists(certificate):
    """Return the list names of a certificate, unchecked."""
    names = part_in(certificate, "lists")
    return certificate[1:2] if names is None else names


def family_in(own):
    """Return the family of a list, unchecked."""
    return (own[0], own[1], own[6])


def is_of_kinds(kinds, certificate):
    """Return whether the kinds of a scope have a certificate in them, unchecked."""
    return kinds == "all" or (kinds == "heads") == is_head(certificate)


def could_reach(own, sealers, certificate):
    """Return whether a list reaches a certificate at some time, unchecked; the sealers may be more than 12."""
    issuer, sealer = own[:2]
    kinds, others, _ = own[6]
    if (issuer, sealer) not in sealers or issuer not in names_of_lists(certificate):
        return False
    if not (issuer == certificate[1] or others) or not is_of_kinds(kinds, certificate):
        return False
    return is_list_sealed(own)


def is_in_time(own, time, grace):
    """Return whether a list, with a grace, lasts at a time, unchecked."""
    return own[4] <= time <= own[5] + grace


def list_names(certificate):
    """Return the list names of a certificate."""
    check_certificate(certificate)
    return names_of_lists(certificate)


def family_of(own):
    """Return the family of a list."""
    check_list(own)
    return family_in(own)


def reaches(own, sealers, certificate, time, grace):
    """Return whether a list reaches a certificate at a time, with sealers and a grace."""
    check_list(own)
    check_sealers(sealers)
    check_certificate(certificate)
    check_time(time)
    check_grace(grace)
    return is_in_time(own, time, grace) and could_reach(own, sealers, certificate)
