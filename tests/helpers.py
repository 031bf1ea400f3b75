"""The tests' one helper: records, sides and odd things to ask with."""

import itertools
import random

MOST = 10 ** 30
TIES = [(2, 0, 1), (5, 1, 2), (7, 0, 2), (MOST, 0, 1)]
NET = (3, 2, TIES)


def odd_things():
    # A list that has itself within it goes on without end for whoever walks it down.
    endless = []
    endless.append(endless)
    return [
        None, True, False, "", "1", "abc", b"", b"1", [], [1], [None], [[]], (), (1,), (1, 2), (None,) * 3,
        ((),), {}, {1: 2}, set(), {1}, frozenset(), range(3), object(), len, int, ValueError, ValueError(),
        lambda: 1, -1, -(10 ** 40), 10 ** 70, NotImplemented, Ellipsis, endless, iter([]), bytearray(b"1"),
    ]


def no_number_within(low, high):
    return odd_things() + [low - 1, high + 1, str(low), [low], (low,)]


def no_nets():
    return odd_things() + [
        list(NET), (3, 2), (3, 2, TIES, 1), (3, 2, tuple(TIES)), (3, 2, None), (3, 2, "none"), (3, 1, TIES),
        (0, 2, []), (11, 2, []), (True, 2, []), ("3", 2, []), (None, 2, []), ([3], 2, []), (3, 0, []), (3, 7, []),
        (3, True, []), (3, "2", []), (3, None, []), (2, 2, TIES), (3, 2, TIES[::-1]),
        (3, 2, [list(tie) for tie in TIES]), (3, 2, [(1, 0, 0)]), (3, 2, [(True, 0, 1)]), (3, 2, [(1, False, 1)]),
        (3, 2, [(1, 0, True)]), (3, 2, [(1, 1, 0)]), (3, 2, [(1, 0, 1), (1, 0, 2)]), (3, 2, [(1, 0, 1), (1, 0, 1)]),
        (3, 2, [(-1, 0, 1)]), (3, 2, [(MOST + 1, 0, 1)]), (3, 2, [(1, 0)]), (3, 2, [None]), (1, 6, [(0, 0, 0)]), {},
        (3, 2, {}),
    ]


def no_ties():
    # Of two places or three.
    return odd_things() + [
        (1, 0), (1, 0, 1, 1), [1, 0, 1], (1, 1, 0), (True, 0, 1), (1, False, 1), (1, 0, True), (-1, 0, 1),
        (MOST + 1, 0, 1), (1, -1, 0), (1, 0, 3), ("1", 0, 1), (1, None, 1), (1, 0, "1"), (2, 1, 0), 7,
    ]


def no_pairs(n):
    same = [(place, place) for place in range(n)]
    return same + [pair for odd in no_number_within(0, n - 1) for pair in ((odd, 0), (n - 1, odd), (odd, odd))]


def some_record(seed, n, count, most=None):
    chance = random.Random(seed)
    moments = sorted(chance.sample(range(most or 3 * count + 5), count))
    record = []
    for moment in moments:
        a, b = chance.randrange(n), chance.randrange(n)
        record.append((moment, min(a, b), max(a, b)))
    return record


def some_records():
    for seed, (n, count) in enumerate(itertools.product((1, 2, 3, 5, 10), (0, 1, 4, 12, 30, 60))):
        yield n, some_record(seed, n, count)


def some_web(seed, n, count, most=9):
    chance = random.Random(seed)
    pairs = [sorted(chance.sample(range(n), 2)) for time in range(count if n > 1 else 0)]
    return [(a, b, chance.randint(1, most)) for a, b in pairs]


def some_webs():
    for seed, (n, count) in enumerate(itertools.product((1, 2, 3, 5, 7, 10), (0, 1, 4, 12, 40))):
        yield n, some_web(3000 + seed, n, count)
        yield n, some_web(3100 + seed, n, count, 2)
        yield n, some_web(3200 + seed, n, count, MOST)


def no_webs():
    # Of three places.
    good = (0, 1, 5)
    bad = odd_things() + [
        (0, 1), (0, 1, 5, 5), [0, 1, 5], (1, 0, 5), (0, 0, 5), (2, 2, 5), (0, 3, 5), (-1, 1, 5), (0, 10 ** 40, 5),
        (0, 1, 0), (0, 1, -1), (0, 1, MOST + 1), (0, 1, 10 ** 59), (0, 1, True), (False, 1, 5), (0, True, 5),
        (0, 1, "5"), ("0", 1, 5), (0, None, 5), (0, 1, None), (0, 1, [5]), (0, 1, (5,)), (0, [1], 5), {0: 1}, "015",
    ]
    webs = [odd for odd in odd_things() if odd != []] + [(good,), {0: good}, good, "none", 0, [good] * 41]
    return webs + [[odd] for odd in bad] + [[good, odd] for odd in bad] + [[odd, good] for odd in bad]


def weight_by_the_words(heavy, side):
    return sum(weight for a, b, weight in heavy if [a in side, b in side].count(True) == 1)


def all_sides(n):
    for size in range(n + 1):
        yield from itertools.combinations(range(n), size)


def joined(ties, a, b):
    reached = {a}
    while True:
        more = {end for tie in ties for end in tie[1:] if reached & set(tie[1:])} | reached
        if more == reached:
            return b in reached
        reached = more


def since_by_the_words(ties, t):
    return [tie for tie in ties if not tie[0] < t]


def rim_by_the_words(ties, side):
    return [moment for moment, a, b in ties if [a in side, b in side].count(True) == 1]


def least_rim(n, ties, a, b):
    return min(len(rim_by_the_words(ties, side)) for side in all_sides(n) if a in side and b not in side)


def all_least_rims(n, ties):
    counts = {side: len(rim_by_the_words(ties, side)) for side in all_sides(n)}
    return {
        (a, b): min(count for side, count in counts.items() if a in side and b not in side)
        for a, b in itertools.permutations(range(n), 2)
    }


def leads(ties, a, b, way):
    ends = {moment: {first, second} for moment, first, second in ties if first != second}
    for moment in way:
        if a not in ends.get(moment, ()):
            return False
        (a,) = ends.pop(moment) - {a}
    return a == b


def lead_apart(ties, a, b, ways):
    used = [moment for way in ways for moment in way]
    return len(used) == len(set(used)) and all(leads(ties, a, b, way) for way in ways)


def places_along(ties, a, way):
    ends = {tie[0]: tie[1:] for tie in ties}
    places = [a]
    for moment in way:
        (more,) = set(ends[moment]) - {places[-1]}
        places.append(more)
    return places


def lead_apart_by_places(ties, a, b, ways):
    if not lead_apart(ties, a, b, ways):
        return False
    rows = [places_along(ties, a, way) for way in ways]
    between = [place for row in rows for place in row[1:-1]]
    return len(between) == len(set(between)) and a not in between and b not in between


def least_parting(n, ties, a, b):
    straight = [tie for tie in ties if set(tie[1:]) == {a, b}]
    others = [tie for tie in ties if tie not in straight]
    inner = [place for place in range(n) if place not in (a, b)]
    for size in range(n - 1):
        for gone in itertools.combinations(inner, size):
            if not joined(without_places(others, gone), a, b):
                return len(straight) + size


def without_places(ties, gone):
    return [tie for tie in ties if tie[1] not in gone and tie[2] not in gone]


def layers_by_the_words(record, k):
    numbers = {}
    for at in range(len(record) - 1, -1, -1):
        younger = record[at + 1:]
        open_ones = [
            j for j in range(1, k + 1)
            if not joined([tie for tie in younger if numbers[tie[0]] == j], record[at][1], record[at][2])
        ]
        numbers[record[at][0]] = min(open_ones, default=0)
    return [numbers[tie[0]] for tie in record]


def net_by_the_words(n, ties, k):
    rising = sorted(set(ties))
    return (n, k, [tie for tie, number in zip(rising, layers_by_the_words(rising, k)) if number])


def lists_within(thing):
    found = [thing] if isinstance(thing, list) else []
    if isinstance(thing, (list, tuple)):
        for inner in thing:
            found += lists_within(inner)
    return found


def cleared(told):
    for one in lists_within(told):
        one.clear()


def all_lists_unlike(told):
    lists = lists_within(told)
    return len({id(one) for one in lists}) == len(lists)
