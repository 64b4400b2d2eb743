"""Stores and questions at random, in which much fits behind much; and all chains of them, one by one."""

import itertools
import random

from chainpapers.sealing import sealed_certificate
from chainpapers.stores import is_question, is_store
from tests.lists import made

NAMES = (("r",), ("r", "a"), ("r", "b"), ("t",))
KEYS = {NAMES[0]: 5, NAMES[1]: 6, NAMES[2]: 7, NAMES[3]: 8}
HOUSES = (("house", ("x",)), ("house", ("x", "y")), ("letter", "", ("x",)), ("name", ("r",)), ("name", ("r", "a")), ("number", 0, 5))
TITLES = (("house", ("x",)), ("house", ("x", "y")), ("letter", "m", ("x",)), ("number", 3), ("number", 9))
POLICIES = ("p", "q", "r")
MAPPINGS = tuple(itertools.product(POLICIES, repeat=2))


def some(source, things, most):
    return tuple(sorted(source.sample(things, source.randint(1, most))))


def some_parts(source, spoils):
    """Parts that let rather much; each of what may bar comes with this probability."""
    parts = {}
    if source.random() > spoils / 3:
        parts["basic"] = (True, source.choice((-1, -1, -1, 0, 1, 2)) if source.random() < spoils * 2 else -1)
    if source.random() > spoils:
        parts["policies"] = tuple(sorted(set(some(source, POLICIES, 2) + ("any",) * source.randint(0, 1))))
    chances = {"permitted": (HOUSES, 3), "excluded": (HOUSES, 1), "names": (TITLES, 3), "mappings": (MAPPINGS, 3),
               "uses": (("agree", "certs", "certs", "lists", "sign"), 4), "lists": (NAMES, 3),
               "purposes": (("any", "any", "call", "serve", "sign", "stamp"), 4)}
    for word, (things, most) in chances.items():
        if source.random() < spoils:
            parts[word] = tuple(sorted(set(some(source, things, most))))
    if source.random() < spoils:
        parts["policylimits"] = source.choice(((0, -1), (-1, 0), (1, 2), (2, -1), (1, -1)))
    if source.random() < spoils:
        parts["anylimit"] = source.choice((0, 1, 2))
    if source.random() < spoils:
        parts["odd"] = (source.random() < 0.2, "w")
    return parts


def some_certificate(source, serial, spoils, names):
    issuer, subject = source.choice(names), source.choice(names)
    key = KEYS[subject] if source.random() < 0.9 else source.randint(5, 9)
    sealer = KEYS[issuer] if source.random() < 0.97 else source.randint(5, 9)
    span = source.choice(((0, 900), (0, 900), (0, 50), (51, 90), (40, 60))) if source.random() < spoils else (0, 900)
    parts = tuple(sorted(some_parts(source, spoils).items()))
    found = sealed_certificate((serial, issuer, subject, key, sealer) + span + (parts, 0))
    return found if source.random() > spoils / 8 else found[:8] + ((found[8] + 1) % 2 ** 32,)


def some_list(source, spoils):
    issuer = source.choice(NAMES[:3])
    entries = tuple((issuer, serial, source.choice((30, 50, 51)), "key") for serial in range(7) if source.random() < spoils / 3)
    scope = source.choice((("all", False, ()), ("all", False, ()), ("users", False, ()), ("heads", False, ())))
    base = source.choice((-1, -1, -1, 0))
    return made(source.randint(1, 3), base, entries, scope, source.choice(((0, 900), (0, 49), (0, 60))), issuer, KEYS[issuer])


def some_anchor(source, spoils):
    name = source.choice((NAMES[0], NAMES[0], NAMES[0], NAMES[1]))
    permitted = some(source, HOUSES, 3) if source.random() < spoils / 2 else ()
    excluded = some(source, HOUSES, 1) if source.random() < spoils / 2 else ()
    return name, KEYS[name], permitted, excluded, source.choice((-1, -1, -1, 0, 1, 2)) if source.random() < spoils else -1


def some_store(source, spoils, most=6):
    names = source.choice((NAMES[:2], NAMES[:3], NAMES))
    certificates = {some_certificate(source, serial, spoils, names) for serial in range(source.randint(1, most))}
    lists = {some_list(source, spoils) for _ in range(source.randint(0, 5))}
    anchors = {some_anchor(source, spoils) for _ in range(source.choice((1, 1, 2, 3)))}
    return tuple(tuple(sorted(things)) for things in (certificates, lists, anchors))


def some_question(source, store, spoils):
    uses, purposes, names = (), (), ()
    if source.random() < spoils:
        uses = some(source, ("agree", "sign"), 2)
    if source.random() < spoils:
        purposes = some(source, ("call", "sign"), 2)
    if source.random() < spoils:
        names = some(source, TITLES, 1)
    wanted = source.choice((("any",), ("any",), ("p",), ("p", "q"), ("any", "q")))
    states = source.choice(("no", "no", "may", "must"))
    numbers = tuple(source.choice((-1, -1, 0, 1, 2)) if source.random() < spoils * 2 else -1 for _ in range(3))
    sealers = tuple((name, KEYS[name]) for name in NAMES[:3]) if source.random() < 0.5 else ()
    most = source.choice((8, 8, 8, 1, 2, 3, 4))
    return (source.randrange(len(store[0])), 50, uses, purposes, names, wanted, (states, 0) + numbers, most, sealers)


def worlds(many, most=6):
    """Stores, each with a question of it."""
    for seed in range(many):
        source = random.Random(seed)
        spoils = source.choice((0, 0.1, 0.2, 0.4))
        store = some_store(source, spoils, most)
        question = some_question(source, store, spoils)
        assert is_store(store) and is_question(store, question)
        yield store, question


def index_paths(store, question, many):
    """Pairs of an anchor and a path, rather of what fits, up to so many."""
    source = random.Random(repr(question))
    target, count = question[0], len(store[0])
    found = list(all_hanging(store, question, count))[:many // 2]
    while store[2] and len(found) < many:
        path = tuple(index for index in (source.randrange(count) for _ in range(source.randint(0, 4))) if index != target)
        found.append((source.randrange(len(store[2])), path + (target,)))
    return found


def told_fits(certificate, name, key):
    return (certificate[1], certificate[4]) == (name, key)


def told_behind(store, anchor, indices):
    """All that fits behind some indices from an anchor."""
    name, key = store[0][indices[-1]][2:4] if indices else store[2][anchor][:2]
    return [index for index, one in enumerate(store[0]) if told_fits(one, name, key)]


def all_hanging(store, question, most=8):
    """All chains that hang together for a question, in the order of paths."""
    found = []
    for many in range(1, min(question[7], len(store[0]), most) + 1):
        ahead = [(anchor, ()) for anchor in range(len(store[2]))]
        for at in range(many):
            ahead = [(anchor, indices + (index,)) for anchor, indices in ahead for index in told_behind(store, anchor, indices)
                     if index not in indices and (index == question[0]) == (at == many - 1)]
        found += sorted(ahead)
    return found
