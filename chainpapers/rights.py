"""What certificates may be used for: uses, purposes, and who may seal."""

from chainpapers.basics import are_all, are_some_of, is_tuple
from chainpapers.certificates import check_certificate, is_certificate, is_head, part_in
from chainpapers.errors import InvalidChain, InvalidPurposes, InvalidUses
from chainpapers.wordlists import PURPOSES, USES

MOST_CERTIFICATES = 8


def is_chain(value):
    """Return whether any value is a chain."""
    return is_tuple(value, 1, MOST_CERTIFICATES) and are_all(value, is_certificate)


def check_chain(chain):
    """Raise InvalidChain for what is no chain."""
    if not is_chain(chain):
        raise InvalidChain("a chain is a tuple of 1 to 8 certificates")


def check_purposes(purposes):
    """Raise InvalidPurposes for what is no ascending tuple of some of the four purposes."""
    if not are_some_of(purposes, PURPOSES):
        raise InvalidPurposes("these are no purposes")


def check_uses(uses):
    """Raise InvalidUses for what is no ascending tuple of some of the four uses."""
    if not are_some_of(uses, USES):
        raise InvalidUses("these are no uses")


def uses_in(certificate):
    """Return the uses of a certificate, unchecked."""
    uses = part_in(certificate, "uses")
    return USES if uses is None else uses


def purposes_in(certificate):
    """Return the purposes of a certificate, unchecked."""
    purposes = part_in(certificate, "purposes")
    return PURPOSES if purposes is None or "any" in purposes else purposes


def can_seal(certificate):
    """Return whether a certificate may seal, unchecked."""
    return is_head(certificate) and "certs" in uses_in(certificate)


def met_purposes(one, other):
    """Return the purposes that are among one and among other ones, unchecked."""
    return tuple([purpose for purpose in one if purpose in other])


def uses_of(certificate):
    """Return the uses of a certificate."""
    check_certificate(certificate)
    return uses_in(certificate)


def purposes_of(certificate):
    """Return the purposes of a certificate."""
    check_certificate(certificate)
    return purposes_in(certificate)


def may_seal(certificate):
    """Return whether a certificate may seal."""
    check_certificate(certificate)
    return can_seal(certificate)


def chain_purposes(chain):
    """Return the purposes that all certificates of a chain have."""
    check_chain(chain)
    purposes = PURPOSES
    for certificate in chain:
        purposes = met_purposes(purposes, purposes_in(certificate))
    return purposes


def purposes_met(one, other):
    """Return the purposes that are among one and among other ones."""
    check_purposes(one)
    check_purposes(other)
    return met_purposes(one, other)
