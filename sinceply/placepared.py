"""Records pared by places: whichever fewer than k places are gone, what is kept joins what the record joins."""

from sinceply.byplaces import hang_often_by_places, place_hang
from sinceply.kinds import look_at_layers
from sinceply.pared import kept_ties, ways_out


def place_pared(n, record, k):
    look_at_layers(k)
    kept = kept_ties(n, record, k, hang_often_by_places)
    return ([tie[0] for tie in kept], ways_out(n, record, kept, k, place_ways))


def place_ways(n, kept, a, b, k):
    return place_hang(n, kept, a, b, k)[1]
