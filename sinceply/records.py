"""Records: rising lists of ties with unlike moments."""

from sinceply.errors import Clash, NoTies
from sinceply.kinds import is_places, is_rising, is_tie, is_tie_either_way, look_at_places

MOST_TIES = 60


def record_of(n, things):
    look_at_places(n)
    if not isinstance(things, list) or not all([is_tie_either_way(n, thing) for thing in things]):
        raise NoTies()
    ties = sorted(set([put_in_order(thing) for thing in things]))
    # Too many ties are refused ahead of a clash, so clashing ones count each.
    if len(ties) > MOST_TIES:
        raise NoTies()
    look_for_clash(ties)
    return ties


def put_in_order(thing):
    return (thing[0], min(thing[1], thing[2]), max(thing[1], thing[2]))


def look_for_clash(ties):
    # The ties are rising, so the first clash is the one with the least moment.
    for at in range(1, len(ties)):
        if ties[at - 1][0] == ties[at][0]:
            raise Clash(ties[at][0])


def is_record(n, thing):
    if not is_places(n) or not isinstance(thing, list) or len(thing) > MOST_TIES:
        return False
    if not all([is_tie(n, tie) for tie in thing]):
        return False
    return is_rising([tie[0] for tie in thing])


def since(record, t):
    return [tie for tie in record if tie[0] >= t]
