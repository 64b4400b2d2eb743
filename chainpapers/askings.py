"""What else could be asked: purposes, uses and policies, and how few certificates are enough."""

from chainpapers.builder import built_by
from chainpapers.certificates import part_in
from chainpapers.paths import all_paths
from chainpapers.policyrows import ANY, mappings_in
from chainpapers.stores import check_question, check_store
from chainpapers.walker import Walker
from chainpapers.wordlists import PURPOSES, USES

MOST_PLACES = 8


def let_of(store, question, at, words):
    """Return the tuple of those words for each of which, alone in a place of a question, there is a path, unchecked."""
    walker = Walker(store, question)
    found = []
    for word in words:
        walker.ask(question[:at] + ((word,),) + question[at + 1:])
        if built_by(walker, False)[0] == "path":
            found.append(word)
    return tuple(found)


def policies_named(store):
    """Return the ascending list of all policies in "policies" and "mappings" of certificates of a store."""
    words = []
    for certificate in store[0]:
        words.extend(part_in(certificate, "policies") or ())
        for one, other in mappings_in(certificate):
            words.extend([one, other])
    return [word for word in sorted(set(words)) if word != ANY]


def with_all_asked(question):
    """Return the question with 0 as the ask, and with "any" as all that is wanted."""
    settings = question[6]
    return question[:5] + ((ANY,), settings[:2] + (0,) + settings[3:]) + question[7:]


def purposes_let(store, question):
    """Return the ascending tuple of the purposes for each of which, as the only one asked, there is a path."""
    check_store(store)
    check_question(store, question)
    return let_of(store, question, 3, PURPOSES)


def uses_let(store, question):
    """Return the ascending tuple of the uses for each of which, as the only one asked, there is a path."""
    check_store(store)
    check_question(store, question)
    return let_of(store, question, 2, USES)


def policies_held(store, question):
    """Return the ascending tuple of the policies for each of which, as the only one wanted, there is a path."""
    check_store(store)
    check_question(store, question)
    held = {}
    # Where policies are asked, a path for "any" lets just those that it is a path for by themselves.
    for _, policies in all_paths(Walker(store, with_all_asked(question))):
        for policy in policies:
            held[policy] = True
    return tuple([policy for policy in policies_named(store) if ANY in held or policy in held])


def least_most(store, question):
    """Return the least most with which there is a path, or None if there is none."""
    check_store(store)
    check_question(store, question)
    paths = all_paths(Walker(store, question[:7] + (MOST_PLACES,) + question[8:]))
    return len(paths[0][0][1]) if paths else None
