"""Rows and seals of certificates and lists."""

from chainpapers.certificates import check_certificate
from chainpapers.rowwriting import value_octets, value_row
from chainpapers.seals import seal_of_octets
from chainpapers.stores import check_list


def fitting_seal(sealer, thing):
    """Return the seal that fits a certificate or a list, unchecked."""
    return seal_of_octets(sealer, value_octets(thing[:8]))


def is_certificate_sealed(certificate):
    """Return whether the seal of a certificate fits, unchecked."""
    return certificate[8] == fitting_seal(certificate[4], certificate)


def is_list_sealed(own):
    """Return whether the seal of a list fits, unchecked."""
    return own[8] == fitting_seal(own[1], own)


def certificate_row(certificate):
    """Return the row of a certificate."""
    check_certificate(certificate)
    return value_row(certificate)


def list_row(own):
    """Return the row of a list."""
    check_list(own)
    return value_row(own)


def sealed_certificate(certificate):
    """Return a certificate with the seal that fits."""
    check_certificate(certificate)
    return certificate[:8] + (fitting_seal(certificate[4], certificate),)


def sealed_list(own):
    """Return a list with the seal that fits."""
    check_list(own)
    return own[:8] + (fitting_seal(own[1], own),)


def is_sealed(certificate):
    """Return whether the seal of a certificate fits."""
    check_certificate(certificate)
    return is_certificate_sealed(certificate)


def is_sealed_list(own):
    """Return whether the seal of a list fits."""
    check_list(own)
    return is_list_sealed(own)
