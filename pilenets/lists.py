"""Rows: put to their order, turned about, undone."""

from pilenets.errors import NoRow


def put_to_order(row):
    """The row of all numbers from 0 on that stand in the same order as this row's."""
    refuse_alike(row)
    ranks = {number: rank for rank, number in enumerate(sorted(row))}
    return [ranks[number] for number in row]


def turned_about(row):
    """The row read from its right."""
    refuse_alike(row)
    return list(reversed(row))


def undone_row(row):
    """At each place the place at which that number stands in a row put to its order."""
    if sorted(row) != list(range(len(row))):
        raise NoRow("this row is not put to its order")
    places = {number: place for place, number in enumerate(row)}
    return [places[number] for number in range(len(row))]


def refuse_alike(row):
    """Refuse a list in which two numbers are alike."""
    if len(set(row)) != len(row):
        raise NoRow("two numbers of the row are alike")
