"""Paths with policies at random, and the rules of the document told of each row of words by itself."""

import itertools
import random

from tests.chains import made, part

WORDS = ("any", "p", "q", "r")
POLICIES = WORDS[1:]
OPEN = (-1, -1, -1)
ENDLESS = 99
MERGING = tuple((f"w{at}", "x") for at in range(8))


def some_part(source, words, most):
    return tuple(sorted(source.sample(words, source.randint(1, min(most, len(words))))))


def some_certificate(source):
    parts = {}
    if source.random() < 0.93:
        parts["policies"] = some_part(source, WORDS + ("any", "p"), 4)
        parts["policies"] = tuple(sorted(set(parts["policies"])))
    if source.random() < 0.5:
        parts["mappings"] = some_part(source, list(itertools.product(POLICIES, repeat=2)), 4)
    if source.random() < 0.3:
        parts["policylimits"] = source.choice(((0, -1), (-1, 0), (1, 2), (2, 1), (-1, 1), (1, -1), (0, 0), (8, 3)))
    if source.random() < 0.2:
        parts["anylimit"] = source.choice((0, 0, 1, 2, 8))
    return made(parts, itself=source.random() < 0.3)


def some_path(source, most=4):
    return tuple(some_certificate(source) for _ in range(source.randint(1, most)))


def some_numbers(source):
    return tuple(source.choice((-1, -1, 0, 1, 2, 8)) for _ in range(3))


def questions(many, most=4):
    """Numbers and paths."""
    for seed in range(many):
        source = random.Random(seed)
        yield some_numbers(source), some_path(source, most)


def lesser(one, other):
    least = min(ENDLESS if one == -1 else one, ENDLESS if other == -1 else other)
    return -1 if least == ENDLESS else least


def told_own(certificate):
    """The numbers that a certificate tells."""
    ask, limit = part(certificate, "policylimits") or (-1, -1)
    last = part(certificate, "anylimit")
    return ask, limit, -1 if last is None else last


def told_ahead(numbers, path):
    """The numbers ahead of each certificate, and behind the last one as if it were not the target."""
    found = [numbers]
    for one in path:
        step = 0 if one[1] == one[2] else 1
        found.append(tuple(lesser(number - step if number > 0 else number, own)
                           for number, own in zip(found[-1], told_own(one))))
    return found


def told_ask_at_target(numbers, path):
    ask = told_ahead(numbers, path)[-2][0]
    return 0 if told_own(path[-1])[0] == 0 else ask - 1 if ask > 0 else ask


def told_taken(certificate, is_last, numbers, expected, word):
    """Whether a word can be taken from an expected word."""
    held = part(certificate, "policies") or ()
    barred = numbers[2] == 0 and (is_last or certificate[1] != certificate[2])
    has_any = "any" in held and not barred
    if expected != "any":
        return word == expected and (word in held or has_any)
    if word == "any":
        return has_any
    firsts = [pair[0] for pair in part(certificate, "mappings") or ()]
    return word in held or (has_any and not is_last and word in firsts)


def told_leads(certificate, numbers, word, expected):
    """Whether a word leads to an expected word."""
    seconds = [pair[1] for pair in part(certificate, "mappings") or () if pair[0] == word]
    if word == "any" or not seconds:
        return expected == word
    return numbers[1] != 0 and expected in seconds


def told_rows(numbers, path, many, words=WORDS):
    """All policy rows of the first certificates of a path, so many."""
    ahead = told_ahead(numbers, path)
    found = []
    for row in itertools.product(words, repeat=many):
        expected = ["any"]
        for at, word in enumerate(row):
            if not any(told_taken(path[at], at == len(path) - 1, ahead[at], one, word) for one in expected):
                break
            expected = [one for one in words if told_leads(path[at], ahead[at], word, one)]
        else:
            found.append(row)
    return sorted(found)


def told_origin(row):
    return ([word for word in row if word != "any"] + ["any"])[0]


def told_kept(numbers, path, many):
    """The pairs that are kept behind the first certificates of a path, none of them the target."""
    if many == 0:
        return (("any", "any"),)
    last = many - 1
    ahead = told_ahead(numbers, path)[last]
    return tuple(sorted({(told_origin(row), word) for row in told_rows(numbers, path, many) for word in WORDS
                         if told_leads(path[last], ahead, row[-1], word)}))


def told_let(numbers, path, wanted):
    """What policies_let returns, told by rows."""
    ahead = told_ahead(numbers, path)
    for at in range(len(path)):
        if ahead[at][0] == 0 and not told_rows(numbers, path, at + 1):
            return ("bar", at)
    origins = {told_origin(row) for row in told_rows(numbers, path, len(path))}
    let = tuple(sorted(origins)) if "any" in wanted else tuple(
        policy for policy in wanted if policy in origins or "any" in origins)
    if not let and told_ask_at_target(numbers, path) == 0:
        return ("bar", len(path) - 1)
    return ("let", let)


def all_wanted():
    return [chosen for many in (1, 2, 4) for chosen in itertools.combinations(WORDS, many)]


def growing_path(first, *factors):
    """A path whose rows are multiplied by each factor in turn, from a first number of rows on, and number of rows.

    One certificate maps one policy to several, the next one several to one.
    """
    words = tuple(f"w{at}" for at in range(8))
    path = [made({"policies": words[:first], "mappings": MERGING[:first]})]
    for factor in factors:
        path.append(made({"policies": ("any",), "mappings": tuple(("x", word) for word in words[:factor])}))
        path.append(made({"policies": ("any",), "mappings": MERGING}))
    return tuple(path)
