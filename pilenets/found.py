"""Found: a shortest doing that brings a row out, or a paper of never."""

from pilenets.doings import first_standing, last_standing, steps_in
from pilenets.errors import TooMany
from pilenets.lists import put_to_order

MOST_STANDINGS = 2000


def way_out(net, row):
    """The first of a row's shortest doings, or the paper of all standings that are come to."""
    order = put_to_order(row)
    last = last_standing(net, len(order))
    found = standings_found(net, order, last)
    if last in found:
        return "doing", doing_to(found, last)
    return "never", list(found)


def how_many_doings(net, row):
    """How many shortest doings bring a row out, 0 where none does."""
    order = put_to_order(row)
    last = last_standing(net, len(order))
    found = standings_found(net, order, last)
    counts = {first_standing(net): 1}
    # Where the last standing is found, all those one move ahead of it are found
    # already, so none of its shortest doings is missed.
    for standing in found:
        further = found[standing][0] + 1
        for _, behind in steps_in(net, order, standing):
            if behind in found and found[behind][0] == further:
                counts[behind] = counts.get(behind, 0) + counts[standing]
    return counts.get(last, 0)


def comes_out(net, row):
    """Whether a row comes out of a net."""
    order = put_to_order(row)
    last = last_standing(net, len(order))
    return last in standings_found(net, order, last)


def standings_found(net, order, goal, most=MOST_STANDINGS):
    """How each standing is found, in order, until the goal is found or all that can be are.

    The row is put to its order. Told is a dict: for each standing how few moves
    lead to it, the standing ahead of it, and the move between these two. Standings
    that are not the goal are refused with TooMany once there are too many of them;
    where the most is None, there never are.
    """
    first = first_standing(net)
    found = {first: (0, None, None)}
    waiting = [first]
    at = 0
    while at < len(waiting) and goal not in found:
        standing = waiting[at]
        further = found[standing][0] + 1
        for move, behind in steps_in(net, order, standing):
            if behind in found or goal in found:
                continue
            if behind != goal and len(found) == most:
                raise TooMany("more standings are come to than are sought through")
            found[behind] = (further, standing, move)
            waiting.append(behind)
        at += 1
    return found


def doing_to(found, standing):
    """The moves by which a standing was found, from the first standing on."""
    doing = []
    fewest, ahead, move = found[standing]
    while fewest > 0:
        doing.append(move)
        fewest, ahead, move = found[ahead]
    doing.reverse()
    return doing
