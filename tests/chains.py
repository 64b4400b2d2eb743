"""Chains at random, and the bars of the document told one by one."""

import itertools
import random

from tests.things import with_item

USES = ("agree", "certs", "lists", "sign")
PURPOSES = ("call", "serve", "sign", "stamp")
MOST_TIME = 10 ** 9


def some_of(words):
    """All ascending tuples of some of these words."""
    return [chosen for many in range(len(words) + 1) for chosen in itertools.combinations(words, many)]


def made(parts=(), since=0, until=MOST_TIME, itself=False, serial=1):
    """A certificate with these parts, given as a dict or a tuple of pairs."""
    held = tuple(sorted(dict(parts).items()))
    return (serial, ("r",), ("r",) if itself else ("s",), 1, 2, since, until, held, 0)


def head(depth=-1, itself=False, **more):
    return made({"basic": (True, depth)}, itself=itself, **more)


def with_value(certificate, word, value):
    """The certificate with a part more."""
    return with_item(certificate, 7, tuple(sorted(certificate[7] + ((word, value),))))


def some_certificate(source, is_good=0.5):
    """A certificate with any of the parts that matter to chains; rather one that lets much."""
    parts = {}
    if source.random() < 0.8:
        is_head = source.random() < 0.9
        parts["basic"] = (is_head, source.choice((-1, -1, 0, 1, 2)) if is_head else -1)
    if source.random() > is_good:
        parts["uses"] = tuple(sorted(source.sample(USES, source.randint(1, 4))))
    if source.random() > is_good:
        parts["purposes"] = tuple(sorted(source.sample(("any",) + PURPOSES, source.randint(2, 5))))
    since = source.choice((0, 0, 0, 3, 5, 6))
    until = source.choice((max(5, since), 8, 10, MOST_TIME))
    return made(parts, since, until, source.random() < 0.3)


def some_chain(source, most=8, is_good=0.5):
    return tuple(some_certificate(source, is_good) for _ in range(source.randint(1, most)))


def some_question(source):
    """A depth, a time, purposes and uses."""
    depth = source.choice((-1, -1, 0, 1, 2, 8))
    time = source.choice((0, 4, 5, 5, 6, 9, MOST_TIME))
    return depth, time, source.choice(some_of(PURPOSES)[:7]), source.choice(some_of(USES)[:7])


def questions(many, most=8):
    for seed in range(many):
        source = random.Random(seed)
        chain = some_chain(source, most, source.choice((0.3, 0.9)))
        depth, time, purposes, uses = some_question(source)
        yield depth, chain, time, purposes, uses


def part(certificate, word):
    return dict(certificate[7]).get(word)


def told_uses(certificate):
    return USES if part(certificate, "uses") is None else part(certificate, "uses")


def told_purposes(certificate):
    held = part(certificate, "purposes")
    return PURPOSES if held is None or "any" in held else held


def told_bars(depth, chain, time, purposes, uses):
    """All bars of a chain, in the document's words: those of depths with all their places."""
    last = len(chain) - 1
    found = []
    for at, one in enumerate(chain):
        found += [("early", at, one[5])] * (time < one[5]) + [("late", at, one[6])] * (time > one[6])
        if at < last:
            found += [("head", at)] * (not (part(one, "basic") or (False,))[0])
            found += [("use", at, "certs")] * ("certs" not in told_uses(one))
        else:
            found += [("use", at, word) for word in uses if word not in told_uses(one)]
        found += [("purpose", at, word) for word in purposes if word not in told_purposes(one)]
    for place in range(-1, last):
        d = depth if place == -1 else (part(chain[place], "basic") or (False, -1))[1]
        if d >= 0:
            counting = [at for at in range(place + 1, last) if chain[at][1] != chain[at][2]]
            found += [("depth", place, places) for places in itertools.combinations(counting, d + 1)]
    return found
