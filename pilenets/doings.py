"""Doings: standings, the moves that may be done in them, and what a list of moves brings out."""

from pilenets.errors import NoMove
from pilenets.lists import put_to_order
from pilenets.nets import IN, OUT, PILE


def first_standing(net):
    """The standing ahead of any move."""
    stations, _ = net
    return 0, ((),) * len(stations), 0


def last_standing(net, many):
    """The standing in which all of so many numbers came out."""
    stations, _ = net
    return many, ((),) * len(stations), many


def standing_behind(net, row, standing, move):
    """The standing behind a move in a standing of a row."""
    order = put_to_order(row)
    _, ways = net
    if move not in ways:
        raise NoMove("this way is none of the net's")
    if not may_be_done(net, order, standing, move):
        raise NoMove("this move may not be done in this standing")
    return standing_moved(net, order, standing, move)


def moves_in(net, row, standing):
    """The moves that may be done in a standing of a row, sorted."""
    return [move for move, _ in steps_in(net, put_to_order(row), standing)]


def brings_out(net, row, doing):
    """Whether each move of a doing may be done, from the first standing to the last one."""
    order = put_to_order(row)
    _, ways = net
    standing = first_standing(net)
    for move in doing:
        if move not in ways or not may_be_done(net, order, standing, move):
            return False
        standing = standing_moved(net, order, standing, move)
    return standing == last_standing(net, len(order))


# The functions below take a row that is put to its order, and ways of the net:
# who walks through many standings has looked at both once.


def steps_in(net, order, standing):
    """The moves that may be done in a standing, sorted, each with the standing behind it."""
    _, ways = net
    return [
        (move, standing_moved(net, order, standing, move))
        for move in sorted(ways)
        if may_be_done(net, order, standing, move)
    ]


def may_be_done(net, order, standing, move):
    """Whether one of the net's ways may be gone in a standing."""
    a, b = move
    number = number_leaving(net, order, standing, a)
    if number is None:
        return False
    return b != OUT or number == standing[2]


def number_leaving(net, order, standing, a):
    """The number that leaves `in` or a station next, None where there is none."""
    stations, _ = net
    gone, held, _ = standing
    if a == IN:
        return order[gone] if gone < len(order) else None
    if not held[a]:
        return None
    return held[a][-1] if stations[a] == PILE else held[a][0]


def standing_moved(net, order, standing, move):
    """The standing behind a move that may be done."""
    stations, _ = net
    gone, held, out = standing
    a, b = move
    number = number_leaving(net, order, standing, a)
    holds = list(held)
    if a == IN:
        gone += 1
    elif stations[a] == PILE:
        holds[a] = holds[a][:-1]
    else:
        holds[a] = holds[a][1:]
    if b == OUT:
        out += 1
    else:
        holds[b] = holds[b] + (number,)
    return gone, tuple(holds), out
