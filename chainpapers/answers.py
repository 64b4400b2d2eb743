"""Answers to questions: a path, or a closed tree, and the words of such a tree."""

from chainpapers.builder import built_by
from chainpapers.stores import check_question, check_store
from chainpapers.treepapers import is_built
from chainpapers.walker import Walker


def words_in(item):
    """Return the list of the words of the item of a knot, each as often as it stands."""
    if item[0] == "as":
        return ["as"]
    words = []
    for _, child in item[1]:
        if child[0] == "knot":
            words.extend(words_in(child))
        else:
            words.append(child[1] if child[0] == "barred" else child[0])
    return words


def counted_words(items):
    """Return the ascending tuple of the pairs (word, how often it stands) of the words of a closed tree."""
    counts = {}
    for item in items:
        for word in words_in(item):
            counts[word] = counts.get(word, 0) + 1
    return tuple(sorted(counts.items()))


def answered(store, question):
    """Return any answer to a question."""
    check_store(store)
    check_question(store, question)
    return built_by(Walker(store, question), False)


def takes(store, question, value):
    """Return whether any value is an answer to a question."""
    check_store(store)
    check_question(store, question)
    return is_built(Walker(store, question), store, value)


def cut_words(store, question):
    """Return the words of any one closed tree, each with how often it stands, or None if there is a path."""
    check_store(store)
    check_question(store, question)
    answer = built_by(Walker(store, question), False)
    return counted_words(answer[1]) if answer[0] == "none" else None
