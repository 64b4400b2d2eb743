"""How many certificates may follow a head."""

from chainpapers.basics import is_integer
from chainpapers.certificates import check_certificate, issues_itself, part_in
from chainpapers.errors import InvalidNumber
from chainpapers.rights import check_chain
from chainpapers.stores import is_depth

NO_DEPTH = -1
NOT_LET = -2


def check_depth(depth):
    """Raise InvalidNumber for what is no depth."""
    if not is_depth(depth):
        raise InvalidNumber("a depth is an integer from -1 to 8")


def depth_in(certificate):
    """Return the depth of a certificate, unchecked."""
    basic = part_in(certificate, "basic")
    return NO_DEPTH if basic is None else basic[1]


def lesser_depth(one, other):
    """Return the lesser of two depths, none being greater than all others."""
    if one == NO_DEPTH or other == NO_DEPTH:
        return max(one, other)
    return min(one, other)


def left_behind(left, certificate):
    """Return what is left behind a certificate that is not the last one, or -2 if it is not let, unchecked."""
    if not issues_itself(certificate):
        if left == 0:
            return NOT_LET
        if left > 0:
            left = left - 1
    return lesser_depth(left, depth_in(certificate))


def counted_above(chain, place):
    """Return the list of the places above a place of certificates that count, unchecked."""
    return [at for at in range(place + 1, len(chain) - 1) if not issues_itself(chain[at])]


def depth_of(certificate):
    """Return the depth of a certificate."""
    check_certificate(certificate)
    return depth_in(certificate)


def counted_behind(chain, place):
    """Return the list of the places above a place of a chain, or above the anchor's, of certificates that count."""
    check_chain(chain)
    if not is_integer(place, -1, len(chain) - 1):
        raise InvalidNumber("this is no place of the chain")
    return counted_above(chain, place)


def left_row(depth, chain):
    """Return the list of what is left behind each certificate but the last, up to the first one that is not let."""
    check_depth(depth)
    check_chain(chain)
    row = []
    left = depth
    for certificate in chain[:-1]:
        left = left_behind(left, certificate)
        row.append(left)
        if left == NOT_LET:
            break
    return row
