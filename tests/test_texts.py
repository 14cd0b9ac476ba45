"""Point 46: nets, rows and doings written and read."""

import itertools
import random
import re
import unittest

from pilenets.errors import NoNet, NoText
from pilenets.texts import doing_text, net_text, read_doing, read_net, read_row, row_text
from tests.by_definition import IN, OUT, TOP, Checks, nets_of_stations, one_behind_the_other, side_by_side

GREAT = 10 ** 30 - 1

# The forms of 46, as patterns.
FIGURES = "(?:0|[1-9][0-9]{0,29})"
MOVE = f"(?:(?:in|{FIGURES})>(?:out|{FIGURES}))"
NUMBER = f"(?:{FIGURES}|-[1-9][0-9]{{0,29}})"
NET_FORM = re.compile(f"(?:-|(?:(?:pile|line),)+) (?:-|{MOVE}(?:,{MOVE})*)")
ROW_FORM = re.compile(f"-|{NUMBER}(?: {NUMBER})*")
DOING_FORM = re.compile(f"-|{MOVE}(?: {MOVE})*")

# Wrong in the place of any move, of a net's or of a doing's.
NO_MOVES = [
    "", ">", "in", "out", "0", "in>", ">out", "0>", ">0", "in0", "in>out>", "in>0>out", "in>>0", "0>in", "out>0",
    "out>in", "in>in", "out>out", "IN>0", "0>OUT", "In>0", "inn>0", "0>outt", "in->0", "in>-1", "-1>0", "0>-2", "-1>-2",
    "in>00", "in>01", "00>out", "01>out", "in>+1", "+1>out", "in>-0", "-0>out", "in>1_0", "in>0x1", "in>1.0", "in>a",
    "in>" + "1" * 31, "1" * 31 + ">out", "in>" + "0" * 30, "in>0\n", "\nin>0", "in\n>0", "in>\n0", "in<0", "in-0",
    "in>0;", "(in>0)", "~", "in>~",
]


class NetText(Checks):

    def written(self, text, net):
        self.told(text, net_text, net)
        self.told(net, read_net, text)

    def test_ordinary_nets(self):
        self.written("pile,line, in>0,0>1,1>out", (["pile", "line"], [(IN, 0), (0, 1), (1, OUT)]))
        self.written("pile, in>0,0>out", side_by_side(["pile"]))
        self.written("line,pile, in>0,in>1,0>out,1>out", side_by_side(["line", "pile"]))

    def test_straight_out_goes_ahead(self):
        self.written("line, in>out,in>0,0>out", (["line"], [(IN, OUT), (IN, 0), (0, OUT)]))

    def test_without_stations_and_without_ways(self):
        self.written("- -", ([], []))
        self.written("- in>out", ([], [(IN, OUT)]))
        self.written("pile, -", (["pile"], []))
        self.written("line,pile,line, -", (["line", "pile", "line"], []))

    def test_all_small_nets(self):
        for many in range(3):
            for net in nets_of_stations(many):
                self.exactly(read_net(net_text(net)), net)

    def test_nets_of_any_number_of_stations(self):
        self.written("line," * 12 + " " + ",".join(f"in>{k}" for k in range(12)), (
            ["line"] * 12, [(IN, k) for k in range(12)],
        ))
        words = [["pile", "line"][k % 2] for k in range(300)]
        for net in [side_by_side(words[:150]), one_behind_the_other(words), (words, []), (["pile"] * 700, [(IN, OUT)])]:
            text = net_text(net)
            self.assertLessEqual(len(text), 4000)
            self.written(text, net)

    def test_ways_in_any_order(self):
        net = (["pile", "line"], [(IN, OUT), (IN, 0), (0, 1), (1, OUT)])
        for ways in itertools.permutations(["in>out", "in>0", "0>1", "1>out"]):
            self.told(net, read_net, "pile,line, " + ",".join(ways))
        words = ["line"] * 11
        self.told((words, [(IN, 2), (IN, 10), (2, OUT), (10, OUT)]), read_net, "line," * 11 + " 10>out,2>out,in>10,in>2")
        # A way to a station of a less number.
        self.written("pile,line, in>1,0>out,1>0", (["pile", "line"], [(IN, 1), (0, OUT), (1, 0)]))

    def test_ways_that_are_none_of_a_net(self):
        for text in [
            "pile, in>0,in>0", "- in>out,in>out", "pile,line, in>0,0>1,1>out,0>1",
            "pile, 0>0", "pile,line, in>0,1>1", "pile,line, 0>1,1>0", "pile,line,pile, in>0,0>1,1>2,2>0",
            "pile, in>1", "pile, 1>out", "- in>0", "- 0>out", "- 0>1", "- 0>0", "pile,line, 0>2", "pile,line, 2>1",
            "pile, in>" + "9" * 30, "pile, " + "9" * 30 + ">out", "line," * 9 + " in>9",
            "pile," * 300 + " " + ",".join(f"{k}>{k + 1}" for k in range(299)) + ",299>0",
        ]:
            self.assertLessEqual(len(text), 4000 + 300)
            self.refused(NoNet, read_net, text)

    def test_texts_that_are_none(self):
        for text in [
            "", " ", "  ", "-", "--", "- ", " -", "-  -", "- - ", " - -", "- - -", "-\n-", "- -\n", "\n- -", "-, -",
            "- , -", ", -", "- ,", "- in>out,", "- ,in>out", "- in>out,,in>0", "- -,in>out", "- in>out,-", "- --",
            "pile, ", "pile,", "pile", "pile -", "pile in>0", "pile,in>0", "pile, in>0 ", " pile, in>0", "pile,  in>0",
            "pile, in>0,", "pile, ,in>0", "pile, in>0,,0>out", "pile, in>0, 0>out", "pile, in>0 0>out",
            "pile,, -", ",pile, -", "pile,,line, -", "pile;line, -", "pile,line -", "pile, line, -", "pile,line,- -",
            "-,pile, -", "-pile, -", "pile,- -", "heap, -", "Pile, -", "PILE, -", "lines, -", "pil, -", "pilepile, -",
            "pile,heap, -", "pile\n, -", "pile,\n-", "pile,\n -", "pile, -\n", "pile, in>0\n", "0, -", "in>0 pile,",
            "pile,line,\tin>0", "pile,line,in>0,0>1,1>out", "a" * 4000, " " * 4000, "pile," * 800, "-" * 4000,
        ]:
            self.refused(NoText, read_net, text)

    def test_moves_that_are_none(self):
        for move in NO_MOVES:
            for text in ["pile,line, {}", "pile,line, in>0,{}", "pile,line, {},1>out", "pile,line, in>0,{},1>out", "- {}"]:
                self.refused(NoText, read_net, text.format(move))

    def test_no_text_goes_ahead_of_no_net(self):
        for text in [
            "pile, in>0,in>0,0>in", "pile, 0>0,out>0", "heap, 0>0", "pile, in>9,in>09", "pile 0>0", "pile, 0>0 ",
            "pile, in>5,", "- 0>0,", "pile, 0>0\n", "pile, in>" + "9" * 30 + ",in>" + "9" * 31,
        ]:
            self.refused(NoText, read_net, text)


class RowText(Checks):

    def written(self, text, row):
        self.told(text, row_text, row)
        self.told(row, read_row, text)

    def test_ordinary_rows(self):
        self.written("3 1 2", [3, 1, 2])
        self.written("0", [0])
        self.written("-7", [-7])
        self.written("10 -10 0", [10, -10, 0])

    def test_of_no_numbers(self):
        self.written("-", [])

    def test_alike_numbers(self):
        self.written("1 1", [1, 1])
        self.written("0 0 0 -5 -5", [0, 0, 0, -5, -5])

    def test_three_hundred_numbers(self):
        self.written(" ".join(map(str, range(299, -1, -1))), list(range(299, -1, -1)))
        self.written("0 " * 1999 + "0", [0] * 2000)

    def test_numbers_of_thirty_figures(self):
        for number in [GREAT, -GREAT, 10 ** 29, -10 ** 29]:
            self.written(str(number), [number])
            self.written(f"1 {number} -1", [1, number, -1])
        self.written(" ".join(["-" + "9" * 30] * 125), [-GREAT] * 125)

    def test_numbers_of_more_figures_are_not_read(self):
        for number in [10 ** 30, -10 ** 30, 10 ** 31, TOP, -TOP]:
            self.refused(NoText, read_row, str(number))
            self.refused(NoText, read_row, f"1 {number}")
            self.refused(NoText, read_row, f"{number} 1")

    def test_texts_that_are_none(self):
        for text in [
            "", " ", "  ", "- ", " -", "--", "- -", "-\n", "\n", "1 ", " 1", "1  2", "1 2 ", " 1 2", "1\n2", "1 2\n",
            "1\n", "\n1", "1 -", "- 1", "1 - 2", "00", "01", "0 00", "-0", "-00", "-01", "1 -0", "+1", "1 +1", "+0", "--1",
            "- 1", "1-", "1-2", "1,2", "1, 2", "1;2", "1.0", "1e5", "1_0", "0x1", "one", "a", "1 a", "in", "in>0", "[1]",
            "(1)", "1\t2", "~", "0" * 30, "0" * 4000, "1" * 4000, "-" * 4000, " " * 4000, "1 " * 2000,
        ]:
            self.refused(NoText, read_row, text)


class DoingText(Checks):

    def written(self, text, doing):
        self.told(text, doing_text, doing)
        self.told(doing, read_doing, text)

    def test_ordinary_doings(self):
        self.written("in>0 0>1 in>out 1>out", [(IN, 0), (0, 1), (IN, OUT), (1, OUT)])
        self.written("in>out", [(IN, OUT)])
        self.written("12>7", [(12, 7)])

    def test_of_no_moves(self):
        self.written("-", [])

    def test_moves_in_their_order_and_several_times(self):
        self.written("1>out 0>1 in>0 in>0 0>1", [(1, OUT), (0, 1), (IN, 0), (IN, 0), (0, 1)])

    def test_from_a_station_to_itself(self):
        self.written("0>0", [(0, 0)])
        self.written("in>5 5>5 5>out", [(IN, 5), (5, 5), (5, OUT)])

    def test_three_hundred_moves(self):
        self.written(" ".join(["in>0", "0>1", "1>out"] * 100), [(IN, 0), (0, 1), (1, OUT)] * 100)

    def test_stations_of_thirty_figures(self):
        self.written(f"in>{GREAT} {GREAT}>{GREAT} {10 ** 29}>out", [(IN, GREAT), (GREAT, GREAT), (10 ** 29, OUT)])

    def test_texts_that_are_none(self):
        for text in [
            " ", "  ", "- ", " -", "--", "- -", "-\n", "in>0 ", " in>0", "in>0  0>out", "in>0,0>out", "in>0, 0>out",
            "in>0\n0>out", "in>0 -", "- in>0", "in>0 - 0>out", "in>0\t0>out", "1 2", "in 0", "in >0", "in> 0",
            "pile, in>0", "- in>out", "a" * 4000, "in>0 " * 800,
        ]:
            self.refused(NoText, read_doing, text)

    def test_moves_that_are_none(self):
        for move in NO_MOVES:
            for text in ["{}", "in>0 {}", "{} 1>out", "in>0 {} 1>out"]:
                self.refused(NoText, read_doing, text.format(move))


def answer(read, text):
    try:
        return read(text)
    except (NoNet, NoText) as error:
        return error.__class__


def ends_of(move):
    a, b = move.split(">")
    return IN if a == "in" else int(a), OUT if b == "out" else int(b)


def is_of_a_net(many, ways):
    """Whether ways are a net's, by an order of the stations that is tried out."""
    if len(set(ways)) != len(ways) or any(end not in range(many) for way in ways for end in way if end >= 0):
        return False
    between = [way for way in ways if IN < way[0] and way[1] != OUT]
    return any(
        all(order.index(a) < order.index(b) for a, b in between) for order in itertools.permutations(range(many))
    )


class ByTheForms(Checks):
    """Texts by chance, held against the patterns above."""

    PARTS = [
        "pile,", "line,", " ", "-", ",", "in>0", "0>1", "1>out", "in>out", "0>0", "1>0", "in>2", ">", "in", "out", "0",
        "10", "-1", "\n", "pile", "+",
    ]

    def texts(self, seed, starts):
        """Texts with a part taken away, put in or said twice, up to three times."""
        chance = random.Random(seed)
        for _ in range(6000):
            parts = list(chance.choice(starts))
            for _ in range(chance.randrange(4)):
                place = chance.randrange(len(parts) + 1)
                parts[place:place + chance.randrange(2)] = chance.choice([[], [chance.choice(self.PARTS)]])
            yield "".join(parts)

    def test_nets(self):
        starts = [
            ["pile,", "line,", " ", "in>0", ",", "0>1", ",", "1>out"], ["-", " ", "in>out"], ["pile,", " ", "-"],
            ["line,", "pile,", "line,", " ", "in>2", ",", "1>0", ",", "in>out"],
        ]
        counts = [0, 0, 0]
        for text in self.texts(1, starts):
            told = answer(read_net, text)
            if not NET_FORM.fullmatch(text):
                self.assertIs(told, NoText, text)
                counts[0] += 1
                continue
            words, moves = text.split(" ")
            stations = re.findall("[a-z]+", words)
            ways = sorted(map(ends_of, re.findall(MOVE, moves)))
            if is_of_a_net(len(stations), ways):
                self.exactly(told, (stations, ways))
                counts[1] += 1
            else:
                self.assertIs(told, NoNet, text)
                counts[2] += 1
        self.assertGreater(min(counts), 50)

    def test_rows(self):
        for text in self.texts(2, [["1", " ", "-1", " ", "10"], ["-"], ["0", " ", "0"], ["-", "10", " ", "in"]]):
            told = answer(read_row, text)
            if ROW_FORM.fullmatch(text):
                self.exactly(told, [] if text == "-" else [int(part) for part in text.split(" ")])
            else:
                self.assertIs(told, NoText, text)

    def test_doings(self):
        for text in self.texts(3, [["in>0", " ", "0>1", " ", "1>out"], ["-"], ["0>0", " ", "in>out"]]):
            told = answer(read_doing, text)
            if DOING_FORM.fullmatch(text):
                self.exactly(told, [ends_of(move) for move in re.findall(MOVE, text)])
            else:
                self.assertIs(told, NoText, text)


if __name__ == "__main__":
    unittest.main()
