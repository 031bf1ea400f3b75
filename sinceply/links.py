"""Links: a forest of the places that has, for each two of them, since when they hang together."""

from sinceply.nets import look_at_net_layers
from sinceply.strands import forest_way
from sinceply.times import latest


def links(net, j):
    look_at_net_layers(net, j)
    told = []
    for place in range(1, net[0]):
        told.extend(youngest_link(net, j, place))
    return told


def youngest_link(net, j, place):
    # Two places hang together so often no later than the older of the moments since when each does with a third;
    # so to the places ahead the way over the youngest link tells the right moment for all of them.
    moments = [latest(net[0], net[2], other, place, j) for other in range(place)]
    found = [(moment, other, place) for other, moment in enumerate(moments) if moment is not None]
    return [max(found)] if len(found) > 0 else []


def least_link(n, some, a, b):
    way = forest_way(some, a, b)
    return None if way is None else min(way)
