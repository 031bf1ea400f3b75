"""Pared records: no tie can be left out, and each one left out has its ways, each kept one its side."""

from sinceply.flows import hang_often, ways_apart
from sinceply.kinds import is_rising, is_side, look_at_layers
from sinceply.rims import rim, ways_right


def pared(n, record, k):
    look_at_layers(k)
    kept = kept_ties(n, record, k, hang_often)
    sides = [side_for(n, kept, tie, k) for tie in kept]
    return ([tie[0] for tie in kept], ways_out(n, record, kept, k, ways_by_ties), sides)


def kept_ties(n, record, k, often):
    # often tells whether two places hang together so often: by ties here, by places elsewhere.
    kept = list(record)
    for tie in record:
        others = without(kept, tie)
        if tie[1] == tie[2] or often(n, others, tie[1], tie[2], k):
            kept = others
    return kept


def without(ties, tie):
    return [other for other in ties if other != tie]


def ways_out(n, record, kept, k, ways_of):
    # Looked for among those kept at the end: a tie that goes leaves k ways between its own ends, so places that hung
    # together k times still do.
    gone = [tie for tie in record if tie not in kept]
    return [no_ways(k) if tie[1] == tie[2] else ways_of(n, kept, tie[1], tie[2], k) for tie in gone]


def no_ways(k):
    return [[] for time in range(k)]


def ways_by_ties(n, kept, a, b, k):
    return ways_apart(n, kept, a, b, k)[0]


def side_for(n, kept, tie, k):
    return ways_apart(n, without(kept, tie), tie[1], tie[2], k)[1]


def pared_right(n, record, k, told):
    look_at_layers(k)
    kept = [tie for tie in record if tie[0] in told[0]]
    # Where a moment of no tie is among those told, they are more than the ties found.
    if not is_rising(told[0]) or len(kept) != len(told[0]):
        return False
    gone = [tie for tie in record if tie not in kept]
    if len(told[1]) != len(gone) or len(told[2]) != len(kept):
        return False
    if not all([out_right(kept, tie, k, ways) for tie, ways in zip(gone, told[1])]):
        return False
    return all([kept_right(n, kept, tie, k, side) for tie, side in zip(kept, told[2])])


def out_right(kept, tie, k, ways):
    if tie[1] == tie[2]:
        return ways == no_ways(k)
    return len(ways) == k and ways_right(kept, tie[1], tie[2], ways)


def kept_right(n, kept, tie, k, side):
    if not is_side(n, side):
        return False
    over = rim(kept, side)
    return tie[0] in over and len(over) <= k
