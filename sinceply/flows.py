"""Flows: ways without a tie in common, found one more at a time, along a shortest way each time."""


def ways_apart(n, ties, a, b, most):
    # (ways, side): as many ways as there are, up to most; side None where there are so many.
    steps = steps_of(n, ties)
    heads = {}
    side = None
    count = 0
    while count < most and side is None:
        found = shortest_ways(free_steps(steps, heads), a)
        if b in found:
            lead_along(heads, found[b])
            count = count + 1
        else:
            # Each tie out of what is still reached is led outward, so just count ties lie over that rim.
            side = tuple(sorted(found))
    return (parted(steps, heads, a, b, count), side)


def hang_often(n, ties, a, b, times):
    return ways_apart(n, ties, a, b, times)[1] is None


def steps_of(n, ties):
    # For each place its steps, a step being a tie's moment and the place that it leads to.
    steps = [[] for place in range(n)]
    for moment, a, b in ties:
        if a != b:
            steps[a].append((moment, b))
            steps[b].append((moment, a))
    return steps


def free_steps(steps, heads):
    # heads has, for each tie that is led along, where to: back along it is free again.
    return [[step for step in row if heads.get(step[0]) != step[1]] for row in steps]


def led_steps(steps, heads):
    return [[step for step in row if heads.get(step[0]) == step[1]] for row in steps]


def shortest_ways(steps, a):
    ways = {a: []}
    pending = [a]
    while pending:
        place = pending.pop(0)
        for step in steps[place]:
            if step[1] not in ways:
                ways[step[1]] = ways[place] + [step]
                pending.append(step[1])
    return ways


def lead_along(heads, way):
    for moment, place in way:
        if moment in heads:
            # It was led the other way round: the two ways change over, and neither needs it.
            heads.pop(moment)
        else:
            heads[moment] = place


def parted(steps, heads, a, b, count):
    left = dict(heads)
    ways = []
    # Counted, as rings may be left over behind the last way.
    for time in range(count):
        way = [step[0] for step in shortest_ways(led_steps(steps, left), a)[b]]
        for moment in way:
            left.pop(moment)
        ways.append(way)
    return ways
