"""Times: which places hang together so often since a moment, and since when two places do."""

from sinceply.flows import hang_often, ways_apart
from sinceply.kinds import look_at_pair
from sinceply.nets import look_at_net_layers
from sinceply.records import since


def classes(net, j, t=0):
    look_at_net_layers(net, j)
    ties = since(net[2], t)
    members = {}
    for place in range(net[0]):
        # Who hangs together with one of a class does so with all of it, so its first place is asked alone.
        homes = [first for first in members if hang_often(net[0], ties, first, place, j)]
        members.setdefault(min(homes, default=place), []).append(place)
    return [tuple(places) for places in members.values()]


def when(net, a, b, j):
    look_at_net_layers(net, j)
    look_at_pair(net[0], a, b)
    t = latest(net[0], net[2], a, b, j)
    if t is None:
        return ("never", ways_apart(net[0], net[2], a, b, j)[1])
    ways = ways_apart(net[0], since(net[2], t), a, b, j)[0]
    side = ways_apart(net[0], since(net[2], t + 1), a, b, j)[1]
    return ("since", t, ways, side)


def latest(n, ties, a, b, j):
    if not hang_often(n, ties, a, b, j):
        return None
    # The ties from low on are enough, those from high on are not; between them halving finds the last that are.
    low = 0
    high = len(ties)
    while high - low > 1:
        middle = (low + high) // 2
        if hang_often(n, ties[middle:], a, b, j):
            low = middle
        else:
            high = middle
    return ties[low][0]
