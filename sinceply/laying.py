"""Nets laid together, nets with a place melted into another, nets to which a tie comes."""

from sinceply.errors import NoTies, Unlike
from sinceply.kinds import is_tie, look_at_pair
from sinceply.nets import look_at_net, net_of
from sinceply.records import look_for_clash, put_in_order


def laid(net, other):
    look_at_net(net)
    look_at_net(other)
    if net[0] != other[0] or net[1] != other[1]:
        raise Unlike()
    return net_with(net, other[2])


def net_come(net, tie):
    look_at_net(net)
    if not is_tie(net[0], tie):
        raise NoTies()
    return net_with(net, [tie])


def net_with(net, more):
    # record_of would refuse more than sixty ties, which two nets may well have together.
    ties = sorted(set(net[2] + more))
    look_for_clash(ties)
    return net_of(net[0], ties, net[1])


def net_melted(net, a, b):
    look_at_net(net)
    look_at_pair(net[0], a, b)
    return net_of(net[0], [tie_melted(tie, a, b) for tie in net[2]], net[1])


def tie_melted(tie, a, b):
    return put_in_order((tie[0], a if tie[1] == b else tie[1], a if tie[2] == b else tie[2]))
