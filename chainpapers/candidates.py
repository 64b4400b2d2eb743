"""Which certificates fit behind which others, and behind anchors."""

from chainpapers.certificates import check_certificate
from chainpapers.errors import InvalidName
from chainpapers.names import is_name
from chainpapers.seals import check_key
from chainpapers.stores import check_store


def check_name(name):
    """Raise InvalidName for what is no name."""
    if not is_name(name):
        raise InvalidName("this is no name")


def does_fit(certificate, name, key):
    """Return whether a certificate fits behind a name and a key, unchecked."""
    return certificate[1] == name and certificate[4] == key


def all_behind(store, name, key):
    """Return the ascending tuple of the indices of all certificates that fit behind a name and a key, unchecked."""
    return tuple([index for index in range(len(store[0])) if does_fit(store[0][index], name, key)])


def all_behind_anchors(store):
    """Return the list of what fits behind each anchor, unchecked."""
    return [all_behind(store, anchor[0], anchor[1]) for anchor in store[2]]


def all_behind_certificates(store):
    """Return the list of what fits behind each certificate, unchecked."""
    return [all_behind(store, certificate[2], certificate[3]) for certificate in store[0]]


def all_linked(store):
    """Return the ascending tuple of the indices of all that fit behind an anchor, or behind one of these, unchecked."""
    behind = all_behind_certificates(store)
    met = {}
    ahead = [index for found in all_behind_anchors(store) for index in found]
    while ahead:
        index = ahead.pop()
        if index not in met:
            met[index] = True
            ahead.extend(behind[index])
    return tuple(sorted(met))


def fits_behind(certificate, name, key):
    """Return whether a certificate fits behind a name and a key."""
    check_certificate(certificate)
    check_name(name)
    check_key(key)
    return does_fit(certificate, name, key)


def candidates(store, name, key):
    """Return the ascending tuple of the indices of all certificates that fit behind a name and a key."""
    check_store(store)
    check_name(name)
    check_key(key)
    return all_behind(store, name, key)


def links(store):
    """Return the ascending tuple of all pairs of indices such that the other certificate fits behind the first one."""
    check_store(store)
    behind = all_behind_certificates(store)
    return tuple([(index, other) for index in range(len(behind)) for other in behind[index]])


def linked(store):
    """Return the ascending tuple of the indices of all that fit behind an anchor, or behind one of these."""
    check_store(store)
    return all_linked(store)
