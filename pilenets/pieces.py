"""Pieces of rows: what a row holds, what bars it, and a doing kept to some places."""

from itertools import combinations, permutations

from pilenets.doings import brings_out, first_standing, number_leaving, standing_moved
from pilenets.errors import NoDoing, NoPlace
from pilenets.found import comes_out
from pilenets.lists import put_to_order


def piece_at(row, places):
    """The piece of a row at these places."""
    order = put_to_order(row)
    refuse_no_places(order, places)
    return put_to_order([order[place] for place in places])


def holds_piece(row, other):
    """The first places at which a row holds another one, or None."""
    order = put_to_order(row)
    sought = put_to_order(other)
    for places in combinations(range(len(order)), len(sought)):
        if put_to_order([order[place] for place in places]) == sought:
            return list(places)
    return None


def bad_piece(net, row):
    """The first places of a bad piece of a row, None where the row comes out."""
    order = put_to_order(row)
    known = {}
    if is_out(net, order, known):
        return None
    return first_bad_behind(net, order, [], known)


def least_bad(net, most):
    """The rows of at most so many numbers that never come out, but all less pieces of which do."""
    known = {}
    bad = []
    for length in range(most + 1):
        for numbers in permutations(range(length)):
            row = list(numbers)
            if is_bad(net, row, known):
                bad.append(row)
    return bad


def doing_kept(net, row, doing, places):
    """The moves of the numbers at these places alone, of a doing that brings the row out."""
    order = put_to_order(row)
    refuse_no_places(order, places)
    if not brings_out(net, order, doing):
        raise NoDoing("this doing does not bring the row out")
    wanted = [order[place] for place in places]
    standing = first_standing(net)
    kept = []
    for move in doing:
        if number_leaving(net, order, standing, move[0]) in wanted:
            kept.append(move)
        standing = standing_moved(net, order, standing, move)
    return kept


def refuse_no_places(row, places):
    """Refuse a list that is no rising list of places of a row."""
    ahead = -1
    for place in places:
        if not ahead < place < len(row):
            raise NoPlace("these are no places of the row, rising, each once")
        ahead = place


def first_bad_behind(net, order, places, known):
    """The first places of a bad piece that begin with these, whose piece comes out, or None."""
    begin = places[-1] + 1 if places else 0
    for place in range(begin, len(order)):
        longer = [*places, place]
        piece = piece_at(order, longer)
        if is_bad(net, piece, known):
            return longer
        # Behind a piece that never comes out no bad one is sought: one place
        # fewer of it could leave this piece, which then would have to come out.
        if is_out(net, piece, known):
            found = first_bad_behind(net, order, longer, known)
            if found is not None:
                return found
    return None


def is_bad(net, piece, known):
    """Whether a row put to its order never comes out, but with any one number fewer does."""
    if is_out(net, piece, known):
        return False
    for place in range(len(piece)):
        if not is_out(net, put_to_order(piece[:place] + piece[place + 1:]), known):
            return False
    return True


def is_out(net, piece, known):
    """Whether a row put to its order comes out: it is sought once, and known from then on."""
    key = tuple(piece)
    if key not in known:
        known[key] = comes_out(net, piece)
    return known[key]
