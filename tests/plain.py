"""The plain bars of the document, each told by itself over the whole path."""

from tests.chains import part, told_purposes, told_uses
from tests.lists import told_newest, told_state, told_views
from tests.policies import WORDS, told_ahead, told_ask_at_target, told_let, told_rows
from tests.routes import REASON_WORDS
from tests.titles import told_lets
from chainpapers.sealing import is_sealed


def told_titles(certificate):
    return [("name", certificate[2])] + list(part(certificate, "names") or ())


def told_withdrawal(store, question, name, key, certificate):
    """The state of a certificate behind a name and a key, as the question asks for it."""
    sealers = question[8] + ((name, key),)
    time, grace = question[1], question[6][1]
    newest = told_newest(store[1], told_views(store[1], sealers, certificate, time, grace))
    return told_state(store[1], newest, certificate, time)[0]


def told_at(store, question, anchor, path, place):
    """The reasons at a place, but for those of policies."""
    chain = [store[0][index] for index in path]
    one, is_last = chain[place], place == len(path) - 1
    ahead = [store[2][anchor]] + chain[:place]
    name, key = ahead[-1][2:4] if place else ahead[0][:2]
    state = told_withdrawal(store, question, name, key, one)
    is_self = one[1] == one[2]
    subtrees = [store[2][anchor][2:4]] + [(part(held, "permitted") or (), part(held, "excluded") or ()) for held in chain[:place]]
    depths = [store[2][anchor][4]] + [(part(held, "basic") or (False, -1))[1] for held in chain[:place]]
    told = {
        "issuer": one[1] != name,
        "key": one[4] != key,
        "seal": not is_sealed(one),
        "time": not one[5] <= question[1] <= one[6],
        "withdrawn": question[6][0] in ("may", "must") and state == "withdrawn",
        "unknown": question[6][0] == "must" and state == "unknown",
        "odd": (part(one, "odd") or (False,))[0],
        "name": (is_last or not is_self) and not all(
            told_lets(permitted, excluded, title) for permitted, excluded in subtrees for title in told_titles(one)),
        "purpose": not set(question[3]) <= set(told_purposes(one)),
        "head": not is_last and not (part(one, "basic") or (False,))[0],
        "uses": not is_last and "certs" not in told_uses(one),
        "depth": not is_last and not is_self and any(
            depth >= 0 and sum(held[1] != held[2] for held in chain[at:place + 1]) > depth for at, depth in enumerate(depths)),
        "use": is_last and not set(question[2]) <= set(told_uses(one)),
        "wanted": is_last and not set(question[4]) <= set(part(one, "names") or ()),
    }
    return [reason for reason, bars in told.items() if bars]


def told_policy_bars(store, question, path, words=WORDS):
    chain = tuple(store[0][index] for index in path)
    numbers = question[6][2:]
    ahead = told_ahead(numbers, chain)
    for place in range(len(path)):
        if ahead[place][0] == 0 and not told_rows(numbers, chain, place + 1, words):
            return [(place, "policy")]
    if told_ask_at_target(numbers, chain) == 0 and told_let(numbers, chain, question[5]) == ("bar", len(path) - 1):
        return [(len(path) - 1, "policies")]
    return []


def told_plain(store, question, anchor, path):
    """All plain bars of a path."""
    found = told_policy_bars(store, question, path)
    for place in range(len(path)):
        found += [(place, reason) for reason in told_at(store, question, anchor, path, place)]
    return tuple(sorted((place, REASON_WORDS.index(reason)) for place, reason in found))
