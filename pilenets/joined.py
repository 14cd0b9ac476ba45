"""Nets put together: beside one another, and one behind the other."""

from pilenets.doings import brings_out
from pilenets.errors import NoDoing
from pilenets.nets import IN, OUT, net_of


def nets_beside(one, other):
    """Two nets beside one another: each number goes through either of them."""
    stations, ways = one
    further_stations, further_ways = other
    further = [renumbered(way, len(stations)) for way in further_ways]
    # A way straight from in to out is alike in both; no other one is.
    return net_of(stations + further_stations, ways + [way for way in further if way not in ways])


def nets_behind(one, other):
    """The other net behind the one: what leaves the one comes into the other."""
    stations, ways = one
    further_stations, further_ways = other
    further = [renumbered(way, len(stations)) for way in further_ways]
    begin = [(a, b) for a, b in ways if b != OUT]
    end = [(a, b) for a, b in further if a != IN]
    between = [(a, b) for a, out in ways if out == OUT for start, b in further if start == IN]
    return net_of(stations + further_stations, begin + between + end)


def doing_beside(one, other, row, doing, first):
    """A doing of a row for the one of two nets, or for the other, told for both beside one another."""
    net = one if first else other
    if not brings_out(net, row, doing):
        raise NoDoing("this doing does not bring the row out")
    stations, _ = one
    return [renumbered(move, 0 if first else len(stations)) for move in doing]


def renumbered(move, by):
    """A move where each station has a number that is greater by so many."""
    a, b = move
    return (a if a == IN else a + by, b if b == OUT else b + by)
