"""Certificates that all seal one another, and a target that none of them lets."""

from chainpapers.sealing import sealed_certificate

AT_HOME = ("r",)


def ring_store(many, most, parts=(), more=()):
    """A store of so many self-issued heads of one key, and a target that is odd; and a question of it."""
    heads = [sealed_certificate((serial, AT_HOME, AT_HOME, 5, 5, 0, 900, tuple(sorted((("basic", (True, -1)),) + tuple(parts))), 0))
             for serial in range(many)]
    target = sealed_certificate((900, AT_HOME, ("t",), 9, 5, 0, 900, (("odd", (True, "w")),), 0))
    certificates = tuple(sorted(heads + [target] + list(more)))
    store = (certificates, (), ((AT_HOME, 5, (), (), -1),))
    return store, (certificates.index(target), 50, (), (), (), ("any",), ("no", 0, -1, -1, -1), most, ())
