"""Papers of never: standings from which no move leads out, and the last one not among them."""

from pilenets.doings import first_standing, last_standing, steps_in
from pilenets.found import standings_found
from pilenets.lists import put_to_order


def never_shows(net, row, paper):
    """Whether a paper of never is let by for a net and a row."""
    order = put_to_order(row)
    for standing in paper:
        if not has_form(net, order, standing):
            return False
    among = set(paper)
    if first_standing(net) not in among or last_standing(net, len(order)) in among:
        return False
    for standing in paper:
        for _, behind in steps_in(net, order, standing):
            if behind not in among:
                return False
    return True


def all_standings(net, row):
    """The standings of a row that can be come to, in the order in which they are found."""
    # There is no goal: the search goes on behind the last standing, which counts too.
    return list(standings_found(net, put_to_order(row), None))


def has_form(net, order, standing):
    """Whether a standing has the net's stations, and has let in as many numbers as may be."""
    stations, _ = net
    gone, held, _ = standing
    return len(held) == len(stations) and 0 <= gone <= len(order)
