"""All paths of a question, and all targets that paths reach, by one walk along all that fits."""


def paths_behind(walker, anchor, indices, spot):
    """Return the list of pairs (chain, policies let) of all paths that go on behind some indices from an anchor."""
    target, most = (walker.question[0], walker.question[7])
    found = []
    if len(indices) == most:
        return found
    for index in walker.fitting(anchor, indices):
        if index in indices:
            continue
        step = walker.step(spot, index, index == target)
        if step[0] == "let":
            found.append(((anchor, indices + (index,)), step[1]))
        elif step[0] == "on":
            found.extend(paths_behind(walker, anchor, indices + (index,), step[1]))
    return found


def in_order(found):
    """Return the list of pairs of chains and of something else in the order of paths."""
    return [pair for _, pair in sorted([(len(pair[0][1]), pair) for pair in found])]


def all_paths(walker):
    """Return the list of pairs (chain, policies let) of all paths, in order."""
    found = []
    for anchor in range(len(walker.anchors)):
        found.extend(paths_behind(walker, anchor, (), walker.begin(anchor)))
    return in_order(found)


def targets_behind(walker, anchor, indices, spot):
    """Return the list of the indices of all that, as targets, end a path behind some indices from an anchor."""
    found = []
    if len(indices) == walker.question[7]:
        return found
    for index in walker.fitting(anchor, indices):
        if index in indices:
            continue
        if walker.step(spot, index, True)[0] == "let":
            found.append(index)
        step = walker.step(spot, index, False)
        if step[0] == "on":
            found.extend(targets_behind(walker, anchor, indices + (index,), step[1]))
    return found


def all_targets(walker):
    """Return the ascending tuple of the indices of all to which, as targets, there is a path."""
    found = []
    for anchor in range(len(walker.anchors)):
        found.extend(targets_behind(walker, anchor, (), walker.begin(anchor)))
    return tuple(sorted(set(found)))
