"""Certificates and their parts."""

from chainpapers.basics import are_all, are_ascending, are_some_of, are_span, is_ascending, is_integer, is_key
from chainpapers.basics import is_policy, is_seal, is_serial, is_truth, is_tuple, is_word
from chainpapers.errors import InvalidCertificate, InvalidPart
from chainpapers.names import are_other_names, are_subtrees, is_name
from chainpapers.wordlists import PURPOSES_OR_ANY, USES


def is_any_limit(value):
    """Return whether any value is one of "anylimit"."""
    return is_integer(value, 0, 8)


def is_basic(value):
    """Return whether any value is one of "basic"."""
    if not is_tuple(value, 2, 2) or not is_truth(value[0]) or not is_integer(value[1], -1, 8):
        return False
    return value[0] or value[1] == -1


def are_part_subtrees(value):
    """Return whether any value is one of "excluded" and "permitted"."""
    return are_subtrees(value, 1)


def are_part_lists(value):
    """Return whether any value is one of "lists"."""
    return are_ascending(value, 1, 4, is_name)


def is_mapping(value):
    """Return whether any value is a pair of policies."""
    return is_tuple(value, 2, 2) and are_all(value, is_policy)


def are_mappings(value):
    """Return whether any value is one of "mappings"."""
    return are_ascending(value, 1, 8, is_mapping)


def are_part_names(value):
    """Return whether any value is one of "names"."""
    return are_other_names(value, 1)


def is_odd(value):
    """Return whether any value is one of "odd"."""
    return is_tuple(value, 2, 2) and is_truth(value[0]) and is_word(value[1])


def are_policies(value):
    """Return whether any value is one of "policies"; policies or "any" are just all words."""
    return are_ascending(value, 1, 8, is_word)


def are_policy_limits(value):
    """Return whether any value is one of "policylimits"."""
    if not is_tuple(value, 2, 2) or not is_integer(value[0], -1, 8) or not is_integer(value[1], -1, 8):
        return False
    return value[0] >= 0 or value[1] >= 0


def are_part_purposes(value):
    """Return whether any value is one of "purposes"."""
    return are_some_of(value, PURPOSES_OR_ANY)


def are_part_uses(value):
    """Return whether any value is one of "uses"."""
    return are_some_of(value, USES)


PART_CHECKS = {
    "anylimit": is_any_limit,
    "basic": is_basic,
    "excluded": are_part_subtrees,
    "lists": are_part_lists,
    "mappings": are_mappings,
    "names": are_part_names,
    "odd": is_odd,
    "permitted": are_part_subtrees,
    "policies": are_policies,
    "policylimits": are_policy_limits,
    "purposes": are_part_purposes,
    "uses": are_part_uses,
}


def is_part_word(value):
    """Return whether any value is one of the twelve words of parts."""
    # What is no string may be no key of a dict, either.
    return isinstance(value, str) and value in PART_CHECKS


def is_part(value):
    """Return whether any value is a pair (word, value) of a part."""
    if not is_tuple(value, 2, 2) or not is_part_word(value[0]):
        return False
    check = PART_CHECKS[value[0]]
    return check(value[1])


def are_parts(value):
    """Return whether any value are the parts of a certificate."""
    if not is_tuple(value, 0, 12) or not are_all(value, is_part):
        return False
    return is_ascending([part[0] for part in value])


def is_certificate(value):
    """Return whether any value is a certificate."""
    if not is_tuple(value, 9, 9):
        return False
    serial, issuer, subject, key, sealer, since, until, parts, seal = value
    if not is_serial(serial) or not is_name(issuer) or not is_name(subject):
        return False
    if not is_key(key) or not is_key(sealer) or not are_span(since, until):
        return False
    return are_parts(parts) and is_seal(seal)


def check_certificate(certificate):
    """Raise InvalidCertificate for what is no certificate."""
    if not is_certificate(certificate):
        raise InvalidCertificate("this is no certificate")


def part_in(certificate, word):
    """Return the value of a part, or None, of a certificate, unchecked."""
    for part in certificate[7]:
        if part[0] == word:
            return part[1]
    return None


def part_of(certificate, word):
    """Return the value of a part of a certificate, or None."""
    check_certificate(certificate)
    if not is_part_word(word):
        raise InvalidPart("no part has this word")
    return part_in(certificate, word)


def issues_itself(certificate):
    """Return whether a certificate is self-issued, unchecked."""
    return certificate[1] == certificate[2]


def is_self_issued(certificate):
    """Return whether a certificate is self-issued."""
    check_certificate(certificate)
    return issues_itself(certificate)


def is_head(certificate):
    """Return whether a certificate is a head, unchecked."""
    basic = part_in(certificate, "basic")
    return basic is not None and basic[0]


def with_part(certificate, word, value):
    """Return a certificate with another value of a part, or, with None, without the part."""
    check_certificate(certificate)
    if not is_part_word(word):
        raise InvalidPart("no part has this word")
    if value is not None and not is_part((word, value)):
        raise InvalidPart("the part has no such value")
    parts = [part for part in certificate[7] if part[0] != word]
    if value is not None:
        parts = sorted(parts + [(word, value)])
    return certificate[:7] + (tuple(parts),) + certificate[8:]
