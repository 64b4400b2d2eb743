"""Lists of withdrawal at random, and what the document says of them, told list by list and view by view."""

import random

from chainpapers.sealing import fitting_seal, sealed_list

REASONS = ("ceased", "changed", "head", "hold", "key", "replaced", "rights")
ROOT, OTHER = ("r",), ("s",)
ALL = ("all", False, ())
SCOPES = (ALL, ALL, ("all", True, ()), ("heads", False, ()), ("users", True, ()), ("all", False, REASONS[:4]),
          ("all", False, REASONS[4:]), ("users", False, REASONS[2:6]), ("heads", True, REASONS[:1]))
SEALERS = tuple((name, key) for name in (ROOT, OTHER) for key in (5, 6))


def made(number=0, base=-1, entries=(), scope=ALL, span=(0, 100), issuer=ROOT, sealer=5):
    """A list with the seal that fits."""
    return sealed_list((issuer, sealer, number, base) + span + (scope, tuple(entries), 0))


def unsealed(own):
    """The list with a seal that does not fit."""
    return own[:8] + ((own[8] + 1) % 2 ** 32,)


def certificate_of(serial=7, issuer=ROOT, parts=()):
    return (serial, issuer, ("r", "w"), 11, 5, 0, 300, tuple(sorted(dict(parts).items())), 0)


def some_entry(source, issuer, scope, is_delta):
    reasons = (scope[2] or REASONS) + (("back",) * 3 if is_delta else ())
    name = source.choice((ROOT, OTHER)) if scope[1] else issuer
    return (name, source.choice((6, 7, 7, 8)), source.randint(0, 20), source.choice(reasons))


def some_entries(source, issuer, scope, is_delta, most=3):
    found = {entry[:2]: entry for entry in (some_entry(source, issuer, scope, is_delta)
                                            for _ in range(source.randint(0, most)))}
    return tuple(found[place] for place in sorted(found))


def some_list(source, families):
    issuer, sealer, scope = source.choice(families)
    number = source.randint(0, 4)
    base = source.randint(0, number - 1) if number and source.random() < 0.5 else -1
    span = tuple(sorted((source.randint(0, 12), source.randint(4, 24))))
    own = made(number, base, some_entries(source, issuer, scope, base >= 0), scope, span, issuer, sealer)
    return unsealed(own) if source.random() < 0.05 else own


def some_lists(source, most=12):
    families = [(source.choice((ROOT, ROOT, OTHER)), source.choice((5, 5, 6)), source.choice(SCOPES)) for _ in range(source.choice((1, 2, 3)))]
    return tuple(sorted(set(some_list(source, families) for _ in range(source.randint(0, most)))))


def some_certificate(source):
    parts = {}
    if source.random() < 0.5:
        parts["lists"] = source.choice(((ROOT,), (OTHER,), (ROOT, OTHER), (ROOT, OTHER)))
    if source.random() < 0.5:
        parts["basic"] = source.choice(((True, 1), (False, -1)))
    return certificate_of(source.choice((6, 7, 7)), source.choice((ROOT, ROOT, OTHER)), parts)


def worlds(many, most=12):
    """Lists, sealers, certificates, times and graces, as they are asked for."""
    for seed in range(many):
        source = random.Random(seed)
        sealers = SEALERS if source.random() < 0.6 else tuple(sorted(source.sample(SEALERS, source.randint(0, 3))))
        grace = source.choice((0, 0, 1, 3, 10))
        yield some_lists(source, most), sealers, some_certificate(source), source.randint(0, 26), grace


def told_reaches(own, sealers, certificate, time, grace):
    parts = dict(certificate[7])
    issuer, sealer, _, _, since, until, (kinds, others, _), _, seal = own
    is_head = parts.get("basic", (False, -1))[0]
    return all((
        (issuer, sealer) in sealers,
        seal == fitting_seal(sealer, own),
        issuer in parts.get("lists", (certificate[1],)),
        others or issuer == certificate[1],
        kinds == "all" or (kinds == "heads" and is_head) or (kinds == "users" and not is_head),
        since <= time <= until + grace))


def told_fits(whole, delta):
    same_family = whole[:2] == delta[:2] and whole[6] == delta[6]
    return same_family and whole[3] == -1 and delta[3] != -1 and delta[3] <= whole[2] and delta[2] > whole[2]


def told_laid(whole, delta):
    found = [entry for entry in whole[7] if entry[:2] not in [other[:2] for other in delta[7]]]
    return tuple(sorted(found + [entry for entry in delta[7] if entry[3] != "back"]))


def told_views(lists, sealers, certificate, time, grace):
    reaching = [at for at, own in enumerate(lists) if told_reaches(own, sealers, certificate, time, grace)]
    alone = [(at, -1) for at in reaching if lists[at][3] == -1]
    return sorted(alone + [(at, other) for at in reaching for other in reaching if told_fits(lists[at], lists[other])])


def told_family(lists, view):
    own = lists[view[0]]
    return own[0], own[1], own[6]


def told_number(lists, view):
    return lists[view[0] if view[1] == -1 else view[1]][2]


def told_entries(lists, view):
    return lists[view[0]][7] if view[1] == -1 else told_laid(lists[view[0]], lists[view[1]])


def told_newest(lists, views):
    return [view for view in views if not any(
        told_family(lists, view) == told_family(lists, other) and told_number(lists, other) > told_number(lists, view)
        for other in views)]


def told_withdrawn(lists, newest, certificate, time):
    """All papers that say "withdrawn" rightly."""
    return [("withdrawn",) + view + (entry,) for view in newest for entry in told_entries(lists, view)
            if (entry[0], entry[1]) == (certificate[1], certificate[0]) and entry[2] <= time]


def told_shows(lists, view, reason):
    reasons = lists[view[0]][6][2]
    return reasons == () or reason in reasons


def told_state(lists, newest, certificate, time):
    """The state, and the reasons that no newest view shows."""
    missing = tuple(reason for reason in REASONS if not any(told_shows(lists, view, reason) for view in newest))
    if told_withdrawn(lists, newest, certificate, time):
        return "withdrawn", missing
    return "unknown" if missing else "good", missing


def some_history(source, most=6):
    """A history, of issuers and reasons as a scope lets, and a frame of it."""
    issuer, scope = source.choice((ROOT, OTHER)), source.choice(SCOPES)
    steps = tuple(some_entries(source, issuer, scope, True, 4) for _ in range(source.randint(0, most)))
    return steps, (issuer, 5, 0, 20, scope)
