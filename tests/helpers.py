"""The tests' one helper: records, sides and odd things to ask with."""

import itertools
import random

MOST = 10 ** 30


def odd_things():
    # A list that has itself within it goes on without end for whoever walks it down.
    endless = []
    endless.append(endless)
    return [
        None, True, False, "", "1", "abc", b"", b"1", [], [1], [None], [[]], (), (1,), (1, 2), (None,) * 3,
        ((),), {}, {1: 2}, set(), {1}, frozenset(), range(3), object(), len, int, ValueError, ValueError(),
        lambda: 1, -1, -(10 ** 40), 10 ** 70, NotImplemented, Ellipsis, endless, iter([]), bytearray(b"1"),
    ]


def no_number_within(low, high):
    return odd_things() + [low - 1, high + 1, str(low), [low], (low,)]


def some_record(seed, n, count, most=None):
    chance = random.Random(seed)
    moments = sorted(chance.sample(range(most or 3 * count + 5), count))
    record = []
    for moment in moments:
        a, b = chance.randrange(n), chance.randrange(n)
        record.append((moment, min(a, b), max(a, b)))
    return record


def some_records():
    for seed, (n, count) in enumerate(itertools.product((1, 2, 3, 5, 10), (0, 1, 4, 12, 30, 60))):
        yield n, some_record(seed, n, count)


def all_sides(n):
    for size in range(n + 1):
        yield from itertools.combinations(range(n), size)


def joined(ties, a, b):
    reached = {a}
    while True:
        more = {end for tie in ties for end in tie[1:] if reached & set(tie[1:])} | reached
        if more == reached:
            return b in reached
        reached = more


def layers_by_the_words(record, k):
    numbers = {}
    for at in range(len(record) - 1, -1, -1):
        younger = record[at + 1:]
        open_ones = [
            j for j in range(1, k + 1)
            if not joined([tie for tie in younger if numbers[tie[0]] == j], record[at][1], record[at][2])
        ]
        numbers[record[at][0]] = min(open_ones, default=0)
    return [numbers[tie[0]] for tie in record]


def lists_within(thing):
    found = [thing] if isinstance(thing, list) else []
    if isinstance(thing, (list, tuple)):
        for inner in thing:
            found += lists_within(inner)
    return found
