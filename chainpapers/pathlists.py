"""Lists of all paths of a question."""

from chainpapers.paths import all_paths
from chainpapers.stores import check_question, check_store
from chainpapers.walker import Walker


def chains_let(store, question):
    """Return the list of all paths, in order, unchecked."""
    return [chain for chain, _ in all_paths(Walker(store, question))]


def paths_of(store, question):
    """Return the list of all paths, in order."""
    check_store(store)
    check_question(store, question)
    return chains_let(store, question)


def least_path(store, question):
    """Return the first path, or None if there is none."""
    check_store(store)
    check_question(store, question)
    paths = chains_let(store, question)
    return paths[0] if paths else None
