"""Moves: what a tie that comes to a record shifts from layer to layer."""

from sinceply.errors import Clash, NoTies
from sinceply.kinds import is_tie, look_at_layers
from sinceply.layers import layered
from sinceply.strands import forest_way


def moves(n, record, k, tie):
    look_at_layers(k)
    if not is_tie(n, tie):
        raise NoTies()
    if tie[0] in [other[0] for other in record]:
        raise Clash(tie[0])
    numbers = layered(n, record, k)
    told = [(tie[0], 0, 1)]
    comer = tie
    for j in range(1, k + 1):
        layer = [other for other, number in zip(record, numbers) if number == j]
        comer = oldest_of_ring(layer, comer)
        if comer is None:
            return told
        told.append((comer[0], j, j + 1 if j < k else 0))
    return told


def oldest_of_ring(layer, comer):
    # Where the comer's ends are one place the way is empty, and the comer is a ring alone.
    way = forest_way(layer, comer[1], comer[2])
    if way is None:
        return None
    return min([tie for tie in layer if tie[0] in way] + [comer])
