"""Strands: the ways that keep a tie out of the layers ahead of its own."""

from sinceply.layers import layered


def strands(n, record, k, at):
    numbers = layered(n, record, k)
    ahead = numbers[at] - 1 if numbers[at] > 0 else k
    tie = record[at]
    return [forest_way(younger(record, numbers, at, j), tie[1], tie[2]) for j in range(1, ahead + 1)]


def younger(record, numbers, at, j):
    return [record[other] for other in range(at + 1, len(record)) if numbers[other] == j]


def forest_way(ties, a, b):
    # The ties close no ring, so the first way found to a place is the only one; None where there is none.
    ways = {a: []}
    pending = [a]
    while pending:
        place = pending.pop()
        for moment, first, second in ties:
            other = first + second - place
            if place in (first, second) and other not in ways:
                ways[other] = ways[place] + [moment]
                pending.append(other)
    return ways.get(b)
