"""Nets: what the layers keep of a record."""

from sinceply.errors import NoLayers, NoNet
from sinceply.kinds import is_layers, is_within
from sinceply.layers import layered
from sinceply.records import is_record, since


def is_net(thing):
    if not isinstance(thing, tuple) or len(thing) != 3:
        return False
    if not is_layers(thing[1]) or not is_record(thing[0], thing[2]):
        return False
    return 0 not in layered(thing[0], thing[2], thing[1])


def look_at_net(thing):
    if not is_net(thing):
        raise NoNet()


def look_at_net_layers(net, j):
    look_at_net(net)
    if not is_within(j, 1, net[1]):
        raise NoLayers()


def net_of(n, record, k):
    numbers = layered(n, record, k)
    return (n, k, [tie for tie, number in zip(record, numbers) if number > 0])


def net_since(net, t):
    look_at_net(net)
    # A tie's layer hangs on younger ties alone, so without the older ones each stays where it was.
    return (net[0], net[1], since(net[2], t))


def net_fewer(net, j):
    look_at_net_layers(net, j)
    return net_of(net[0], net[2], j)
