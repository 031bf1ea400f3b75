"""The package's one helper: what counts as a whole number, a place, a moment, a tie, a side."""

from sinceply.errors import NoLayers, NoPair, NoPlaces


def is_whole(thing):
    # A truth is an int to Python, but no whole number here.
    return isinstance(thing, int) and not isinstance(thing, bool)


def is_within(thing, low, high):
    return is_whole(thing) and low <= thing <= high


def is_places(thing):
    return is_within(thing, 1, 10)


def is_place(n, thing):
    return is_within(thing, 0, n - 1)


def is_layers(thing):
    return is_within(thing, 1, 6)


def is_moment(thing):
    return is_within(thing, 0, 10 ** 30)


def is_tie_either_way(n, thing):
    if not isinstance(thing, tuple) or len(thing) != 3:
        return False
    return is_moment(thing[0]) and is_place(n, thing[1]) and is_place(n, thing[2])


def is_tie(n, thing):
    return is_tie_either_way(n, thing) and thing[1] <= thing[2]


def is_heavy_tie(n, thing):
    if not isinstance(thing, tuple) or len(thing) != 3:
        return False
    return is_pair(n, thing[0], thing[1]) and thing[0] < thing[1] and is_within(thing[2], 1, 10 ** 30)


def is_rising(things):
    return all([things[at - 1] < things[at] for at in range(1, len(things))])


def is_pair(n, a, b):
    return is_place(n, a) and is_place(n, b) and a != b


def is_side(n, thing):
    return isinstance(thing, tuple) and all([is_place(n, place) for place in thing]) and is_rising(thing)


def look_at_places(n):
    if not is_places(n):
        raise NoPlaces()


def look_at_layers(k):
    if not is_layers(k):
        raise NoLayers()


def look_at_pair(n, a, b):
    if not is_pair(n, a, b):
        raise NoPair()
