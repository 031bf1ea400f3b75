"""How often two places hang together by places: ways that share no tie and no place but both ends."""

from sinceply.flows import lead_along, parted, shortest_ways
from sinceply.kinds import look_at_pair


def place_hang(n, record, a, b, most):
    look_at_pair(n, a, b)
    straight = [tie for tie in record if a in tie[1:] and b in tie[1:]]
    others = [tie for tie in record if tie not in straight]
    ways = [[tie[0]] for tie in straight[:most]]
    around = ways_around(n, others, a, b, most - len(ways))
    ways.extend(around[0])
    return (len(ways), ways, around[1])


def hang_often_by_places(n, ties, a, b, times):
    return place_hang(n, ties, a, b, times)[2] is None


def ways_around(n, ties, a, b, most):
    # (ways, places): as many ways as there are, up to most, of ties of which none has just both ends.
    # Each place has a door in, by its number, and a door out, n above it; the step between them is gone but once.
    moments = moments_of_steps(n, ties)
    steps = steps_through_doors(n, moments)
    heads = {}
    reached = shortest_ways(free_doors(steps, heads), n + a)
    count = 0
    while count < most and b in reached:
        lead_along(heads, reached[b])
        count = count + 1
        reached = shortest_ways(free_doors(steps, heads), n + a)
    ways = parted(steps, heads, n + a, b, count)
    told = [[moments[step] for step in way if step in moments] for way in ways]
    if count == most:
        return (told, None)
    return (told, tuple(sorted([first_shut(n, way, reached) for way in ways])))


def moments_of_steps(n, ties):
    # Of several ties with the same ends one is enough, as each place is gone through but once.
    moments = {}
    for moment, a, b in ties:
        if a != b:
            moments[(n + a, b)] = moment
            moments[(n + b, a)] = moment
    return moments


def steps_through_doors(n, moments):
    steps = [[] for door in range(2 * n)]
    through = [(place, n + place) for place in range(n)]
    for step in list(moments) + through:
        steps[step[0]].append((step, step[1]))
    return steps


def free_doors(steps, heads):
    # A step that is led along is free but backwards.
    free = [[] for row in steps]
    for door, row in enumerate(steps):
        for step, onward in row:
            if step in heads:
                free[onward].append((step, door))
            else:
                free[door].append((step, onward))
    return free


def first_shut(n, way, reached):
    # No way leads past the first place of each way whose door out is not reached: these part both ends.
    return [step[0] for step in way if step[0] < n and step[1] not in reached][0]
