"""Names, certificates, lists, anchors, questions and stores at random, their texts as the document tells them, and spoiled texts."""

import random

from tests.grammar import PURPOSES, REASONS, SIGNS, USES

BOUNDS = {"key": (0, 2 ** 32 - 1), "time": (0, 10 ** 9), "serial": (0, 10 ** 6), "named": (0, 65535)}


def some_number(source, kind):
    low, high = BOUNDS[kind]
    return source.choice((low, high, source.randint(low, high), source.randint(low, min(high, 12))))


def some_word(source):
    return "".join(source.choice(SIGNS) for _ in range(source.choice((1, 1, 2, 3, 12))))


def some_policy(source):
    return source.choice(("p", "q", "r1", "any1", "an", some_word(source)))


def some_words(source, least):
    return tuple(some_word(source) for _ in range(source.randint(least, 4)))


def some_other(source):
    return source.choice((("house", some_words(source, 1)), ("letter", some_word(source), some_words(source, 1)),
                          ("number", some_number(source, "named"))))


def some_subtree(source):
    low, high = sorted((some_number(source, "named"), some_number(source, "named")))
    return source.choice((("house", some_words(source, 0)), ("name", some_words(source, 0)),
                          ("letter", source.choice(("", some_word(source))), some_words(source, 0)), ("number", low, high)))


def some_of(source, make, least, most):
    return tuple(sorted({make(source) for _ in range(source.choice((least, least, 1, 2, most)))} or ()))


def some_depth(source):
    return source.choice((-1, 0, 1, 8))


def some_parts(source):
    limits = (some_depth(source), source.choice((0, 8)))
    parts = {
        "anylimit": source.choice((0, 3, 8)), "basic": source.choice(((False, -1), (True, -1), (True, 0), (True, 8))),
        "excluded": some_of(source, some_subtree, 1, 8), "permitted": some_of(source, some_subtree, 1, 8),
        "lists": some_of(source, lambda one: some_words(one, 1), 1, 4), "names": some_of(source, some_other, 1, 8),
        "mappings": some_of(source, lambda one: (some_policy(one), some_policy(one)), 1, 8),
        "odd": (source.choice((True, False)), some_word(source)),
        "policies": some_of(source, lambda one: one.choice((some_policy(one), "any")), 1, 8),
        "policylimits": source.choice((limits, limits[::-1])),
        "purposes": tuple(word for word in ("any",) + PURPOSES if source.random() < 0.5),
        "uses": tuple(word for word in USES if source.random() < 0.5)}
    chance = source.choice((0, 0.2, 0.5, 1))
    return tuple(sorted((word, value) for word, value in parts.items() if source.random() < chance))


def some_span(source):
    return tuple(sorted((some_number(source, "time"), some_number(source, "time"))))


def some_certificate(source):
    return (some_number(source, "serial"), some_words(source, 1), some_words(source, 1), some_number(source, "key"),
            some_number(source, "key")) + some_span(source) + (some_parts(source), some_number(source, "key"))


def some_list(source):
    issuer, number = some_words(source, 1), some_number(source, "serial")
    base = source.choice((-1, -1, 0, number - 1)) if number else -1
    scope = (source.choice(("all", "heads", "users")), source.choice((True, False)),
             tuple(sorted(source.sample(REASONS, source.choice((0, 0, 1, 2, 6))))))
    reasons = (scope[2] or REASONS) + (("back",) if base >= 0 else ())
    entries = {}
    for _ in range(source.choice((0, 1, 2, 30))):
        name = source.choice((issuer, some_words(source, 1))) if scope[1] else issuer
        entries[(name, some_number(source, "serial"))] = (some_number(source, "time"), source.choice(reasons))
    entries = tuple(place + entries[place] for place in sorted(entries))
    return (issuer, some_number(source, "key"), number, base) + some_span(source) + (scope, entries, some_number(source, "key"))


def some_anchor(source):
    return (some_words(source, 1), some_number(source, "key"), some_of(source, some_subtree, 0, 8),
            some_of(source, some_subtree, 0, 8), some_depth(source))


def some_store(source):
    makes = ((some_certificate, 30), (some_list, 12), (some_anchor, 6))
    return tuple(some_of(source, make, 0, source.choice((1, 3, most))) for make, most in makes)


def some_question(source, many):
    """A question of a store of so many certificates."""
    settings = (source.choice(("may", "must", "no")), some_number(source, "serial")) + tuple(some_depth(source) for _ in range(3))
    return (source.randrange(many), some_number(source, "time"), tuple(word for word in USES if source.random() < 0.5),
            tuple(word for word in PURPOSES if source.random() < 0.5), some_of(source, some_other, 0, 8),
            some_of(source, lambda one: one.choice((some_policy(one), "any")), 1, 8), settings, source.randint(1, 8),
            some_of(source, lambda one: (some_words(one, 1), some_number(one, "key")), 0, 12))


def told_words(words):
    return "/".join(words)


def told_maybe(number):
    return "-" if number == -1 else f"{number}"


def told_truth(truth):
    return "yes" if truth else "no"


def told_several(make, things):
    return "[" + ",".join(make(thing) for thing in things) + "]"


def told_subtree(one):
    """The text of a subtree, or of an other name."""
    if one[0] == "number":
        return "number(" + "..".join(f"{number}" for number in one[1:]) + ")"
    if one[0] == "letter":
        return f"letter({one[1]}@{told_words(one[2])})"
    return f"{one[0]}({told_words(one[1])})"


def told_part(part):
    word, value = part
    makes = {"lists": told_words, "mappings": ">".join, "policies": str, "purposes": str, "uses": str}
    if word == "anylimit":
        return f"anylimit({value})"
    if word == "basic":
        return f"basic({told_truth(value[0])},{told_maybe(value[1])})"
    if word == "odd":
        return f"odd({told_truth(value[0])},{value[1]})"
    if word == "policylimits":
        return f"policylimits({told_maybe(value[0])},{told_maybe(value[1])})"
    return word + told_several(makes.get(word, told_subtree), value)


def told_certificate(one):
    parts = "{" + " ".join(told_part(part) for part in one[7]) + "}"
    return f"certificate {one[0]} {told_words(one[1])} {told_words(one[2])} {one[3]} {one[4]} {one[5]} {one[6]} {parts} {one[8]}"


def told_list(one):
    kinds, others, reasons = one[6]
    entries = told_several(lambda entry: f"{told_words(entry[0])}:{entry[1]}:{entry[2]}:{entry[3]}", one[7])
    return (f"list {told_words(one[0])} {one[1]} {one[2]} {told_maybe(one[3])} {one[4]} {one[5]} {kinds} {told_truth(others)} "
            f"{told_several(str, reasons)} {entries} {one[8]}")


def told_anchor(one):
    subtrees = [told_several(told_subtree, things) for things in one[2:4]]
    return f"anchor {told_words(one[0])} {one[1]} {subtrees[0]} {subtrees[1]} {told_maybe(one[4])}"


def told_question(one):
    settings = " ".join([one[6][0], str(one[6][1])] + [told_maybe(number) for number in one[6][2:]])
    sealers = told_several(lambda pair: f"{told_words(pair[0])}:{pair[1]}", one[8])
    return (f"question {one[0]} {one[1]} {told_several(str, one[2])} {told_several(str, one[3])} {told_several(told_subtree, one[4])} "
            f"{told_several(str, one[5])} {settings} {one[7]} {sealers}")


def told_store(store):
    makes = (told_certificate, told_list, told_anchor)
    return "".join(make(thing) + "\n" for make, things in zip(makes, store) for thing in things)


def things(many, seed=0):
    """Triples of a sort, a thing of it, and its text; questions are those of a store of 30 certificates."""
    makes = {"name": (lambda source: some_words(source, 1), told_words), "other": (some_other, told_subtree),
             "subtree": (some_subtree, told_subtree), "certificate": (some_certificate, told_certificate), "list": (some_list, told_list),
             "anchor": (some_anchor, told_anchor), "question": (lambda source: some_question(source, 30), told_question)}
    for at in range(many):
        source = random.Random(f"{seed} {at}")
        for sort, (make, tell) in makes.items():
            thing = make(source)
            yield sort, thing, tell(thing)


def spoiled_texts(source, text, many):
    """Texts with a sign changed, left out, put in, cut, or two stretches of it changed for each other."""
    signs = SIGNS + " /()[]{},.:@>-\nA~" + text
    for _ in range(many):
        at = source.randint(0, len(text))
        other = source.randint(0, len(text))
        yield source.choice((
            text[:at], text[:at] + source.choice(signs) + text[at:], text[:at] + text[at + 1:],
            text[:at] + source.choice(signs) + text[at + 1:], text[:at] + text[other:], text[:at] + text[at:at + 1] * 2 + text[at + 1:],
            text[:max(at, other)] + text[min(at, other):]))
