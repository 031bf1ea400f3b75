"""Rims of sides, parts of the places, and ways along ties."""


def rim(record, side):
    return [moment for moment, a, b in record if (a in side) != (b in side)]


def parts(n, record):
    groups = list(range(n))
    for moment, a, b in record:
        groups = merged(groups, a, b)
    members = {}
    for place, group in enumerate(groups):
        members.setdefault(group, []).append(place)
    return sorted([tuple(places) for places in members.values()])


def merged(groups, a, b):
    # groups has, for each place, a number that just the places joined with it share.
    return [groups[a] if group == groups[b] else group for group in groups]


def way_right(record, a, b, way):
    ends = {}
    for moment, first, second in record:
        if first != second:
            ends[moment] = (first, second)
    place = a
    used = {}
    for moment in way:
        if moment in used or moment not in ends or place not in ends[moment]:
            return False
        used[moment] = True
        # Of the two unlike ends, the one that is not the place.
        place = sum(ends[moment]) - place
    return place == b


def ways_right(record, a, b, ways):
    used = []
    for way in ways:
        used.extend(way)
    return len(set(used)) == len(used) and all([way_right(record, a, b, way) for way in ways])
