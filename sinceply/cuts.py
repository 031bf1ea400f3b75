"""Small cuts of a net, and the least of them with ways that show that none is less."""

from sinceply.flows import ways_apart
from sinceply.kinds import is_side
from sinceply.nets import look_at_net
from sinceply.records import since
from sinceply.rims import rim, ways_right


def small_cuts(net, t=0):
    look_at_net(net)
    ties = since(net[2], t)
    cuts = [(side, rim(ties, side)) for side in thin_sides(net[0], ties, net[1])]
    return sorted(cuts, key=lambda cut: (len(cut[1]), cut[0]))


def thin_sides(n, ties, k):
    sides = [()]
    for place in range(1, n):
        # What has k ties over its rim among the first places has them whichever others come to it.
        among = [tie for tie in ties if tie[2] <= place]
        both = sides + [side + (place,) for side in sides]
        sides = [side for side in both if len(rim(among, side)) < k]
    return [side for side in sides if len(side) > 0]


def least_cut(net, t=0):
    cuts = small_cuts(net, t)
    if net[0] == 1:
        return ("alone",)
    ties = since(net[2], t)
    if len(cuts) == 0:
        return ("thick", shows_of(net[0], ties, net[1]))
    return ("cut", cuts[0][0], shows_of(net[0], ties, len(cuts[0][1])))


def shows_of(n, ties, count):
    return [ways_apart(n, ties, 0, place, count)[0] for place in range(1, n)]


def least_right(net, t, told):
    look_at_net(net)
    ties = since(net[2], t)
    if told[0] == "cut":
        count = len(rim(ties, told[1]))
        return is_small(net, told[1], count) and shows_right(net[0], ties, count, told[2])
    if told[0] == "thick":
        return net[0] > 1 and shows_right(net[0], ties, net[1], told[1])
    return told == ("alone",) and net[0] == 1


def is_small(net, side, count):
    return is_side(net[0], side) and len(side) > 0 and 0 not in side and count < net[1]


def shows_right(n, ties, count, shows):
    if len(shows) != n - 1:
        return False
    # The shows begin with those of place 1.
    return all([len(ways) == count and ways_right(ties, 0, at + 1, ways) for at, ways in enumerate(shows)])
