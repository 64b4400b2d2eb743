"""All chains that hang together, all paths, and all targets that paths reach, each by going along all that fits."""

from chainpapers.candidates import all_behind_anchors, all_behind_certificates


def chains_behind(behind, question, indices):
    """Return the list of the indices of all chains that begin with some indices and hang together to the target."""
    if indices[-1] == question[0]:
        return [indices]
    found = []
    if len(indices) < question[7]:
        for index in behind[indices[-1]]:
            if index not in indices:
                found.extend(chains_behind(behind, question, indices + (index,)))
    return found


def all_hanging(store, question):
    """Return the list of all chains that hang together, in order, unchecked."""
    behind = all_behind_certificates(store)
    ahead = all_behind_anchors(store)
    found = []
    for anchor in range(len(ahead)):
        for first in ahead[anchor]:
            for indices in chains_behind(behind, question, (first,)):
                found.append((len(indices), (anchor, indices)))
    return [chain for _, chain in sorted(found)]


def paths_behind(walker, anchor, indices, spot):
    """Return the list of pairs (chain, policies let) of all paths that go on behind some indices from an anchor."""
    target, most = (walker.question[0], walker.question[7])
    found = []
    if len(indices) == most:
        return found
    for index in walker.fitting(anchor, indices):
        if index in indices:
            continue
        step = walker.step(spot, index, index == target)
        if step[0] == "let":
            found.append(((anchor, indices + (index,)), step[1]))
        elif step[0] == "on":
            found.extend(paths_behind(walker, anchor, indices + (index,), step[1]))
    return found


def in_order(found):
    """Return the list of pairs of chains and of something else in the order of paths."""
    return [pair for _, pair in sorted([(len(pair[0][1]), pair) for pair in found])]


def all_paths(walker):
    """Return the list of pairs (chain, policies let) of all paths, in order."""
    found = []
    for anchor in range(len(walker.anchors)):
        found.extend(paths_behind(walker, anchor, (), walker.begin(anchor)))
    return in_order(found)


def targets_behind(walker, anchor, indices, spot):
    """Return the list of the indices of all that, as targets, end a path behind some indices from an anchor."""
    found = []
    if len(indices) == walker.question[7]:
        return found
    for index in walker.fitting(anchor, indices):
        if index in indices:
            continue
        if walker.step(spot, index, True)[0] == "let":
            found.append(index)
        step = walker.step(spot, index, False)
        if step[0] == "on":
            found.extend(targets_behind(walker, anchor, indices + (index,), step[1]))
    return found


def all_targets(walker):
    """Return the ascending tuple of the indices of all to which, as targets, there is a path."""
    found = []
    for anchor in range(len(walker.anchors)):
        found.extend(targets_behind(walker, anchor, (), walker.begin(anchor)))
    return tuple(sorted(set(found)))
