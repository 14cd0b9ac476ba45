"""Texts: nets, rows and doings written and read."""

from pilenets.errors import NoText
from pilenets.nets import IN, LINE, OUT, PILE, net_of

NOTHING = "-"
FIGURES = "0123456789"
MOST_FIGURES = 30


def net_text(net):
    """A net as a text."""
    stations, ways = net
    words = "".join([word + "," for word in stations])
    moves = ",".join([move_text(way) for way in ways])
    return (words or NOTHING) + " " + (moves or NOTHING)


def row_text(row):
    """A row as a text."""
    return " ".join([str(number) for number in row]) or NOTHING


def doing_text(doing):
    """A doing as a text."""
    return " ".join([move_text(move) for move in doing]) or NOTHING


def read_net(text):
    """The net that a text writes."""
    parts = text.split(" ")
    if len(parts) != 2:
        raise NoText("a net has stations, a blank and ways")
    stations = read_stations(parts[0])
    ways = [read_move(part) for part in parts_of(parts[1], ",")]
    return net_of(stations, ways)


def read_row(text):
    """The row that a text writes, alike numbers too."""
    return [read_number(part) for part in parts_of(text, " ")]


def read_doing(text):
    """The doing that a text writes."""
    return [read_move(part) for part in parts_of(text, " ")]


def move_text(move):
    """A move, or a way, as a text."""
    a, b = move
    return ("in" if a == IN else str(a)) + ">" + ("out" if b == OUT else str(b))


def parts_of(text, sign):
    """The parts of a text between signs; the text for nothing has none."""
    return [] if text == NOTHING else text.split(sign)


def read_stations(text):
    """The stations whose words a text writes, each with a comma behind."""
    if text == NOTHING:
        return []
    *words, rest = text.split(",")
    if rest != "" or not words:
        raise NoText("a comma is missing behind a station")
    for word in words:
        if word != PILE and word != LINE:
            raise NoText("this is the word of no station")
    return words


def read_move(text):
    """The move, or the way, that a text writes, whether or not it is one of a net's."""
    ends = text.split(">")
    if len(ends) != 2:
        raise NoText("a move has two ends")
    a = IN if ends[0] == "in" else read_figures(ends[0])
    b = OUT if ends[1] == "out" else read_figures(ends[1])
    return a, b


def read_number(text):
    """The number of a row that a text writes."""
    if not text.startswith("-"):
        return read_figures(text)
    number = read_figures(text[1:])
    if number == 0:
        raise NoText("nought has no sign")
    return -number


def read_figures(text):
    """The number, 0 or more, whose figures a text writes."""
    if not 0 < len(text) <= MOST_FIGURES:
        raise NoText("these are no figures, or too many")
    for sign in text:
        if sign not in FIGURES:
            raise NoText("this is no figure")
    if text[0] == "0" and text != "0":
        raise NoText("a number begins with no nought")
    return int(text)
