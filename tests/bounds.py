"""A store at the bound of point [8]: 30 certificates, 12 lists, 6 anchors, and just under 5,000 tuples."""

import itertools
import random

from chainpapers.sealing import sealed_certificate
from tests.lists import made
from tests.worlds import told_behind

WORDS = ("a", "b", "c", "d")
WIDTHS = (3, 4, 4, 4, 4, 5)
MISSING = ("house", ("missing",))


def level_name(level):
    return ("r",) + ((f"n{level}",) if level else ())


def some_subtrees(source, many):
    found = {source.choice((("house", tuple(source.choices(WORDS, k=source.randint(1, 3)))),
                            ("letter", source.choice(("", "x")), tuple(source.choices(WORDS, k=2))),
                            ("name", ("z",) + tuple(source.choices(WORDS, k=2))),
                            ("number", source.randrange(30000), source.randrange(30000, 60000)))) for _ in range(many)}
    return tuple(sorted(found))


def level_certificate(source, level, serial):
    policies = tuple(f"p{at}" for at in range(6))
    parts = {"basic": (True, 8), "excluded": some_subtrees(source, 8), "names": (("number", 60000 + serial), ("number", 65000)),
             "policies": tuple(sorted(("any",) + tuple(source.sample(policies, 4)))),
             "mappings": tuple(sorted(source.sample(list(itertools.permutations(policies, 2)), 8)))}
    return sealed_certificate((serial, level_name(level), level_name(level + 1), level + 1, level, 0, 900, tuple(sorted(parts.items())), 0))


def bound_store(seed=1):
    source = random.Random(seed)
    certificates = [level_certificate(source, level, 10 * level + at) for level, width in enumerate(WIDTHS) for at in range(width)]
    # These fit behind the anchors, and nothing fits behind them.
    certificates += [sealed_certificate((500 + at, ("r",), ("s", "s"), 99, 0, 0, 900, (), 0)) for at in range(6)]
    lists = [made(number, -1, [(level_name(level), 600 + at, 30, "key") for at in range(30)], ("all", False, ()), (0, 900),
                  level_name(level), level) for level in range(6) for number in (1, 2)]
    anchors = [(("r",), 0, (), some_subtrees(source, 8), 8) for _ in range(6)]
    return tuple(sorted(certificates)), tuple(sorted(lists)), tuple(sorted(anchors))


def bound_question(store, states="no", is_path=False, most=8):
    target = max(index for index, one in enumerate(store[0]) if one[2] == level_name(len(WIDTHS)))
    names = () if is_path else (MISSING,)
    return (target, 50, (), (), names, ("any",), (states, 0, -1, -1, -1), most, ())


def count_tuples(store):
    """How many tuples of 1 to 8 unlike certificates fit behind the anchors."""
    ahead = sorted({(index,) for anchor in range(len(store[2])) for index in told_behind(store, anchor, ())})
    count = 0
    for _ in range(8):
        count += len(ahead)
        ahead = [indices + (index,) for indices in ahead for index in told_behind(store, 0, indices) if index not in indices]
    return count
