"""Nets: stations, and the ways between them."""

from pilenets.errors import NoNet

PILE = "pile"
LINE = "line"
IN = -1
OUT = -2


def net_of(stations, ways):
    """The net of these stations and of these ways, which may come in any order."""
    for word in stations:
        if word != PILE and word != LINE:
            raise NoNet("a station is a pile or a line")
    many = len(stations)
    for way in ways:
        if not is_way(way, many):
            raise NoNet("this is no way between these stations")
    if len(set(ways)) != len(ways):
        raise NoNet("a way stands twice")
    if leads_round_about(ways, many):
        raise NoNet("the ways lead round about")
    return list(stations), sorted(ways)


def is_whole(thing):
    """Whether a thing is a whole number."""
    # Python counts True and False among the ints; the document does not.
    return isinstance(thing, int) and not isinstance(thing, bool)


def is_way(thing, many):
    """Whether a thing is a way in a net of so many stations."""
    if not isinstance(thing, tuple) or len(thing) != 2:
        return False
    a, b = thing
    if not is_whole(a) or not is_whole(b):
        return False
    begins = a == IN or 0 <= a < many
    ends = b == OUT or 0 <= b < many
    return begins and ends and a != b


def leads_round_about(ways, many):
    """Whether ways, of so many stations, lead from some station back to it."""
    behind = [[] for number in range(many)]
    left = [0] * many
    for a, b in ways:
        if a != IN and b != OUT:
            behind[a].append(b)
            left[b] += 1
    # A station is free once all ways that lead to it come from stations
    # that were free before. Only stations on a round, or behind one, never are.
    free = [number for number in range(many) if left[number] == 0]
    freed = 0
    while free:
        station = free.pop()
        freed += 1
        for later in behind[station]:
            left[later] -= 1
            if left[later] == 0:
                free.append(later)
    return freed < many
