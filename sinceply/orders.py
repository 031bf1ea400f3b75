"""Heavy webs: an order of the places, the bands that it gives the ties, and their heads up to a number."""

from sinceply.errors import NoPair, NoTies
from sinceply.kinds import is_heavy_tie, is_place, look_at_places

MOST_HEAVY = 40


def look_at_heavy(n, heavy):
    look_at_places(n)
    if not isinstance(heavy, list) or len(heavy) > MOST_HEAVY:
        raise NoTies()
    if not all([is_heavy_tie(n, tie) for tie in heavy]):
        raise NoTies()


def order(n, heavy, first=0):
    look_at_heavy(n, heavy)
    if not is_place(n, first):
        raise NoPair()
    row = [first]
    while len(row) < n:
        left = [place for place in range(n) if place not in row]
        weights = [weight_to(heavy, place, row) for place in left]
        # Of several that weigh most index finds the first, which is the least.
        row.append(left[weights.index(max(weights))])
    return row


def weight_to(heavy, place, row):
    return sum([weight for a, b, weight in heavy if (a == place and b in row) or (b == place and a in row)])


def bands(n, heavy, row):
    look_at_heavy(n, heavy)
    found = {}
    for rank, place in enumerate(row):
        high = 0
        for at in ties_ahead(heavy, place, row[:rank]):
            low = high
            high = low + heavy[at][2]
            found[at] = (low, high)
    return [found[at] for at in range(len(heavy))]


def ties_ahead(heavy, place, ahead):
    # Where in the list they stand: by the order of the places ahead, then by the list's own.
    found = []
    for other in ahead:
        found.extend([at for at, tie in enumerate(heavy) if place in tie[:2] and other in tie[:2]])
    return found


def heads(some, number):
    return [max(0, min(high, number) - low) for low, high in some]
