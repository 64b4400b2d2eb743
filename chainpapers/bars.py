"""What bars a chain at a time, for purposes and uses, told place by place."""

from chainpapers.basics import is_alike, is_ascending, is_integer, is_tuple
from chainpapers.certificates import is_head
from chainpapers.depths import check_depth, counted_above, depth_in
from chainpapers.rights import check_chain, check_purposes, check_uses, purposes_in, uses_in
from chainpapers.times import check_time


def bars_at(chain, at, time, purposes, uses):
    """Return the list of the bars of the certificate at a place, but for those of depths, unchecked."""
    certificate = chain[at]
    is_last = at == len(chain) - 1
    bars = []
    if time < certificate[5]:
        bars.append(("early", at, certificate[5]))
    if time > certificate[6]:
        bars.append(("late", at, certificate[6]))
    if not is_last and not is_head(certificate):
        bars.append(("head", at))
    asked = uses if is_last else ("certs",)
    bars.extend([("use", at, use) for use in asked if use not in uses_in(certificate)])
    bars.extend([("purpose", at, purpose) for purpose in purposes if purpose not in purposes_in(certificate)])
    return bars


def depth_at(depth, chain, place):
    """Return the depth that the anchor, or a certificate that is not the last, has at its place."""
    return depth if place == -1 else depth_in(chain[place])


def depth_bars(depth, chain):
    """Return the list of the bars of depths with the least places, unchecked."""
    bars = []
    for place in range(-1, len(chain) - 1):
        least = depth_at(depth, chain, place)
        counted = counted_above(chain, place)
        if 0 <= least < len(counted):
            bars.append(("depth", place, tuple(counted[:least + 1])))
    return bars


def bars_of(depth, chain, time, purposes, uses):
    """Return the list of all bars that are told, ascending, unchecked."""
    bars = depth_bars(depth, chain)
    for at in range(len(chain)):
        bars.extend(bars_at(chain, at, time, purposes, uses))
    return sorted(bars)


def place_seen(bar):
    """Return the place at which a bar is seen."""
    return bar[2][-1] if bar[0] == "depth" else bar[1]


def is_depth_bar(depth, chain, value):
    """Return whether any value is a bar of a depth, with any places, unchecked."""
    if not is_tuple(value, 3, 3) or value[0] != "depth" or not is_integer(value[1], -1, len(chain) - 2):
        return False
    place, places = value[1:]
    least = depth_at(depth, chain, place)
    if least < 0 or not is_tuple(places, least + 1, least + 1):
        return False
    counted = counted_above(chain, place)
    for at in places:
        if not is_integer(at, 0, len(chain) - 1) or at not in counted:
            return False
    return is_ascending(places)


def check_asked(depth, chain, time, purposes, uses):
    """Raise the error of the first argument that is wrong."""
    check_depth(depth)
    check_chain(chain)
    check_time(time)
    check_purposes(purposes)
    check_uses(uses)


def is_let(depth, chain, time, purposes, uses):
    """Return whether a chain is let."""
    check_asked(depth, chain, time, purposes, uses)
    return not bars_of(depth, chain, time, purposes, uses)


def all_bars(depth, chain, time, purposes, uses):
    """Return the ascending tuple of all bars that are told of a chain."""
    check_asked(depth, chain, time, purposes, uses)
    return tuple(bars_of(depth, chain, time, purposes, uses))


def first_bar(depth, chain, time, purposes, uses):
    """Return the least one of the bars that are seen at the least place, or None if there is none."""
    check_asked(depth, chain, time, purposes, uses)
    bars = bars_of(depth, chain, time, purposes, uses)
    return min([(place_seen(bar), bar) for bar in bars])[1] if bars else None


def takes_bar(depth, chain, time, purposes, uses, value):
    """Return whether any value is a bar of a chain."""
    check_asked(depth, chain, time, purposes, uses)
    if is_depth_bar(depth, chain, value):
        return True
    for bar in bars_of(depth, chain, time, purposes, uses):
        if is_alike(value, bar):
            return True
    return False
