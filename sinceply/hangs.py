"""How often two places hang together: as many ways, and a side that shows that there are no more."""

from sinceply.flows import ways_apart
from sinceply.kinds import is_pair, is_side, look_at_pair
from sinceply.nets import look_at_net
from sinceply.records import since
from sinceply.rims import rim, ways_right


def hang_of(n, record, a, b, most, t=0):
    look_at_pair(n, a, b)
    found = ways_apart(n, since(record, t), a, b, most)
    return (len(found[0]), found[0], found[1])


def hang(net, a, b, t=0):
    look_at_net(net)
    return hang_of(net[0], net[2], a, b, net[1], t)


def hang_right(n, record, a, b, most, t, told):
    ties = since(record, t)
    count = told[0]
    if not is_pair(n, a, b) or count > most:
        return False
    if len(told[1]) != count or not ways_right(ties, a, b, told[1]):
        return False
    if count == most:
        return told[2] is None
    return side_right(n, ties, a, b, count, told[2])


def side_right(n, ties, a, b, count, side):
    return is_side(n, side) and a in side and b not in side and len(rim(ties, side)) == count
