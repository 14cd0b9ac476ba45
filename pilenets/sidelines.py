"""Lines side by side: the nets of stations side by side, and what lines bring out."""

from pilenets.errors import NoDoing, NoMark, NoNumber
from pilenets.lists import put_to_order, undone_row
from pilenets.nets import IN, LINE, OUT, PILE, is_whole, net_of

MOST_SIDE_BY_SIDE = 6


def lines_net(many):
    """The net of so many lines side by side."""
    return net_side_by_side(LINE, many)


def piles_net(many):
    """The net of so many piles side by side."""
    return net_side_by_side(PILE, many)


def falling_piece(row):
    """The first places of a longest falling piece of a row."""
    order = put_to_order(row)
    longest = longest_falling(order)
    many = max(longest, default=0)
    places = []
    for place, number in enumerate(order):
        falls = not places or number < order[places[-1]]
        if falls and longest[place] == many - len(places):
            places.append(place)
    return places


def line_numbers(row):
    """For each place of a row the line to which its number goes, the fewest in all."""
    lasts = []
    lines = []
    for number in put_to_order(row):
        below = [last for last in lasts if last < number]
        if below:
            line = lasts.index(max(below))
            lasts[line] = number
        else:
            line = len(lasts)
            lasts.append(number)
        lines.append(line)
    return lines


def doing_by_lines(row, many, lines):
    """The doing that brings a row out of so many lines, each number by its own line."""
    order = put_to_order(row)
    refuse_no_marks(lines, many, len(order))
    lasts = {}
    for number, line in zip(order, lines):
        if line in lasts and number < lasts[line]:
            raise NoDoing("the numbers of a line don't rise")
        lasts[line] = number
    return doing_by_marks(order, lines)


def net_side_by_side(word, many):
    """The net of so many stations of one word, none of which leads to another one."""
    if not 0 <= many <= MOST_SIDE_BY_SIDE:
        raise NoNumber("so many stations don't stand side by side")
    ways = [(IN, station) for station in range(many)] + [(station, OUT) for station in range(many)]
    return net_of([word] * many, ways)


def longest_falling(order):
    """For each place how long the longest falling piece is that begins there."""
    longest = [1] * len(order)
    for place in reversed(range(len(order))):
        for later in range(place + 1, len(order)):
            if order[later] < order[place]:
                longest[place] = max(longest[place], longest[later] + 1)
    return longest


def refuse_no_marks(marks, many, places):
    """Refuse a thing that is no list of whole numbers from 0 to below so many, one for each place."""
    if not isinstance(marks, list) or len(marks) != places:
        raise NoMark("this is no list with a number for each place")
    for mark in marks:
        if not is_whole(mark) or not 0 <= mark < many:
            raise NoMark("this is the number of no station")


def doing_by_marks(order, marks):
    """The doing in which each number of a row goes by the station of its mark.

    The row is put to its order. Lines whose numbers rise, and piles whose marks
    are good, never bar the next number once it is in: so it is enough to ask
    whether that went in, and what the stations hold need not be known.
    """
    places = undone_row(order)
    doing = []
    gone = 0
    for place in places:
        while gone <= place:
            doing.append((IN, marks[gone]))
            gone += 1
        doing.append((marks[place], OUT))
    return doing
