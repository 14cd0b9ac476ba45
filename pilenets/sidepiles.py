"""Piles side by side: marks that give a pile to each number, and papers that bar all marks."""

from pilenets.errors import NoDoing, NoNumber
from pilenets.lists import put_to_order
from pilenets.sidelines import MOST_SIDE_BY_SIDE, doing_by_marks, refuse_no_marks


def against_pairs(row):
    """The pairs of places of a row that stand against one another, sorted."""
    order = put_to_order(row)
    many = len(order)
    least_behind = [min(order[place + 1:], default=many) for place in range(many)]
    return [
        (i, j)
        for i in range(many)
        for j in range(i + 1, many)
        if least_behind[j] < order[i] < order[j]
    ]


def marks_good(row, many, marks):
    """Whether marks are good for a row and so many piles."""
    pairs = against_pairs(row)
    if len(marks) != len(row):
        return False
    for mark in marks:
        if not 0 <= mark < many:
            return False
    return all([marks[i] != marks[j] for i, j in pairs])


def fewest_piles(row):
    """How many piles a row needs, and the first good marks for so many."""
    rivals = earlier_rivals(row)
    many = 0
    marks = first_marks(rivals, many, [])
    while marks is None:
        many += 1
        marks = first_marks(rivals, many, [])
    return many, marks


def branches_show(row, many, paper):
    """Whether a paper of branches is let by for a row and so many piles."""
    pairs = {pair: True for pair in against_pairs(row)}
    return is_let_by(pairs, len(row), many, {}, paper)


def marks_or_never(row, many):
    """The first good marks for so many piles, or a paper of branches that bars all marks."""
    rivals = earlier_rivals(row)
    if not 1 <= many <= MOST_SIDE_BY_SIDE:
        raise NoNumber("nothing is told of so many piles")
    marks = first_marks(rivals, many, [])
    if marks is None:
        return "never", branches_behind(rivals, many, [])
    return "marks", marks


def doing_by_piles(row, many, marks):
    """The doing that brings a row out of so many piles, each number by its own pile."""
    order = put_to_order(row)
    refuse_no_marks(marks, many, len(order))
    if not marks_good(order, many, marks):
        raise NoDoing("these marks aren't good")
    return doing_by_marks(order, marks)


def earlier_rivals(row):
    """For each place of a row the earlier ones that it stands against, rising."""
    pairs = against_pairs(row)
    rivals = [[] for place in range(len(row))]
    for i, j in pairs:
        rivals[j].append(i)
    return rivals


# The functions below give marks to place after place. A mark is used only where all
# less ones are: so the least mark that no place has is how many different ones there are.
# No first marks are missed: with two marks changed for one another they'd be less.


def marks_let(many, marks):
    """How many marks, from 0 on, may be given next."""
    return max(0, min(many, len(set(marks)) + 1))


def first_alike(rivals, marks, mark):
    """The first rival, of the place behind all marks, that has this mark, or None."""
    for rival in rivals[len(marks)]:
        if marks[rival] == mark:
            return rival
    return None


def first_marks(rivals, many, marks):
    """The first good marks for so many piles that begin with these, or None."""
    if len(marks) == len(rivals):
        return marks
    for mark in range(marks_let(many, marks)):
        if first_alike(rivals, marks, mark) is None:
            found = first_marks(rivals, many, [*marks, mark])
            if found is not None:
                return found
    return None


def branches_behind(rivals, many, marks):
    """The paper of branches behind these marks, with which no good ones begin."""
    place = len(marks)
    papers = []
    for mark in range(marks_let(many, marks)):
        rival = first_alike(rivals, marks, mark)
        if rival is None:
            papers.append(branches_behind(rivals, many, [*marks, mark]))
        else:
            papers.append(("against", rival, place))
    return "branch", place, papers


def is_let_by(pairs, places, many, given, paper):
    """Whether nothing is wrong in a paper of branches, walked with the marks given so far."""
    if paper[0] == "against":
        _, i, j = paper
        return (i, j) in pairs and i in given and j in given and given[i] == given[j]
    _, place, papers = paper
    if not 0 <= place < places or place in given:
        return False
    if len(papers) != marks_let(many, list(given.values())):
        return False
    for mark, further in enumerate(papers):
        if not is_let_by(pairs, places, many, {**given, place: mark}, further):
            return False
    return True
