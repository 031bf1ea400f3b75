"""The lightest side of a heavy web, with flows that show that none is lighter."""

from sinceply.flows import shortest_ways
from sinceply.orders import look_at_heavy


def side_weight(heavy, side):
    return sum([weight for a, b, weight in heavy if (a in side) != (b in side)])


def lightest(n, heavy):
    look_at_heavy(n, heavy)
    if n == 1:
        return None
    side = tuple(range(1, n))
    weight = side_weight(heavy, side)
    for place in range(1, n):
        found = flow_to(n, heavy, place, weight)
        if found[0] < weight:
            weight = found[0]
            side = found[2]
    # As much goes to each place as the lightest side weighs, which may be less than was found on the way to it.
    return (weight, side, [flow_to(n, heavy, place, weight)[1] for place in range(1, n)])


def flow_to(n, heavy, place, most):
    # (total, flow, side): as much as goes from place 0, up to most; where it is less, side is what isn't reached.
    flow = [0 for tie in heavy]
    total = 0
    reached = shortest_ways(open_steps(n, heavy, flow), 0)
    while total < most and place in reached:
        pushes = [step[0] for step in reached[place]]
        amount = min([room(heavy, flow, push) for push in pushes] + [most - total])
        for at, sign in pushes:
            flow[at] = flow[at] + sign * amount
        total = total + amount
        reached = shortest_ways(open_steps(n, heavy, flow), 0)
    return (total, flow, tuple([other for other in range(n) if other not in reached]))


def open_steps(n, heavy, flow):
    # A push is where a tie stands in the list, with 1 from its first end to its second, -1 the other way round.
    steps = [[] for place in range(n)]
    for at, tie in enumerate(heavy):
        if room(heavy, flow, (at, 1)) > 0:
            steps[tie[0]].append(((at, 1), tie[1]))
        if room(heavy, flow, (at, -1)) > 0:
            steps[tie[1]].append(((at, -1), tie[0]))
    return steps


def room(heavy, flow, push):
    return heavy[push[0]][2] - push[1] * flow[push[0]]
