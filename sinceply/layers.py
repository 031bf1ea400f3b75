"""Layers: each tie in the first one whose younger ties don't join its ends yet."""

from sinceply.kinds import look_at_layers
from sinceply.rims import merged


def layered(n, record, k):
    look_at_layers(k)
    layers = [list(range(n)) for layer in range(k)]
    numbers = []
    # From the youngest on, so that each layer has just the younger ties.
    for moment, a, b in reversed(record):
        number = least_layer(layers, a, b)
        if number > 0:
            layers[number - 1] = merged(layers[number - 1], a, b)
        numbers.append(number)
    return list(reversed(numbers))


def least_layer(layers, a, b):
    for at, groups in enumerate(layers):
        if groups[a] != groups[b]:
            return at + 1
    return 0


def layers_right(n, record, k, numbers):
    # From the youngest tie on, what is asked of each number leaves just one: so one list alone is right.
    return numbers == layered(n, record, k)
