"""The desk: it is told rows, and answers each by a text."""

from pilenets.alike import first_parting
from pilenets.counts import how_many_rows
from pilenets.errors import NoForm, NoneYet, NoNet
from pilenets.found import how_many_doings, way_out
from pilenets.joined import nets_behind, nets_beside
from pilenets.pieces import bad_piece
from pilenets.sidelines import falling_piece, line_numbers
from pilenets.sidepiles import fewest_piles
from pilenets.texts import FIGURES, doing_text, read_net, read_row, row_text

MOST_STATIONS = 6
WITH_TEXT = ("net", "other", "row")
WITH_FIGURE = ("rows", "part")
ALONE = ("way", "count", "bad", "lines", "piles", "beside", "behind")


def tell_way(net, row):
    """A shortest doing of a row, or how many standings it comes to."""
    kind, told = way_out(net, row)
    return "doing " + doing_text(told) if kind == "doing" else "never " + str(len(told))


def tell_count(net, row):
    """How many shortest doings a row has."""
    return str(how_many_doings(net, row))


def tell_bad(net, row):
    """The places of a row's bad piece."""
    places = bad_piece(net, row)
    return "none" if places is None else row_text(places)


def tell_lines(row):
    """How many lines a row needs, and each number's line."""
    return row_text([len(falling_piece(row)), *line_numbers(row)])


def tell_piles(row):
    """How many piles a row needs, and each number's pile."""
    many, marks = fewest_piles(row)
    return row_text([many, *marks])


def tell_stations(net):
    """How many stations a net has."""
    stations, _ = net
    return "stations " + str(len(stations))


OF_NET_AND_ROW = {"way": tell_way, "count": tell_count, "bad": tell_bad}
OF_ROW = {"lines": tell_lines, "piles": tell_piles}


class Desk:
    """A net, another one and a row, as they were told last: each is None until it is told."""

    def __init__(self):
        self._net = None
        self._other = None
        self._row = None

    def say(self, row):
        """The answer to a row that the desk is told."""
        word, rest = word_and_rest(row)
        if word in WITH_TEXT:
            return self._take(word, rest)
        if word == "rows":
            return str(how_many_rows(there(self._net), int(rest)))
        if word == "part":
            return self._part(int(rest))
        if word in OF_ROW:
            tell = OF_ROW[word]
            return tell(there(self._row))
        if word in OF_NET_AND_ROW:
            tell = OF_NET_AND_ROW[word]
            return tell(there(self._net), there(self._row))
        return self._put_together(word)

    def _take(self, word, text):
        """Read a row or a net, and keep it."""
        if word == "row":
            self._row = read_row(text)
            return "numbers " + str(len(self._row))
        net = read_net(text)
        if word == "net":
            self._net = net
        else:
            self._other = net
        return tell_stations(net)

    def _part(self, most):
        """The first row of at most so many numbers that parts both nets."""
        row = first_parting(there(self._net), there(self._other), most)
        return "alike" if row is None else row_text(row)

    def _put_together(self, word):
        """Make the net both nets put together."""
        net = there(self._net)
        other = there(self._other)
        if len(net[0]) + len(other[0]) > MOST_STATIONS:
            raise NoNet("both nets together have too many stations")
        self._net = nets_beside(net, other) if word == "beside" else nets_behind(net, other)
        return tell_stations(self._net)


def word_and_rest(row):
    """The word of a row that has a form, and what stands behind its blank."""
    word, blank, rest = row.partition(" ")
    if word in WITH_TEXT:
        formed = blank != ""
    elif word in WITH_FIGURE:
        formed = len(rest) == 1 and rest in FIGURES
    else:
        formed = word in ALONE and blank == ""
    if not formed or "\n" in row:
        raise NoForm("a row of no form")
    return word, rest


def there(thing):
    """What is asked of the desk, where it was told."""
    if thing is None:
        raise NoneYet("this was not told yet")
    return thing
