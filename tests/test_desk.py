"""Points 47 and 48: each row that a desk is told, what it answers, and which refusal goes first."""

import itertools
import random
import unittest

from pilenets.alike import first_parting
from pilenets.counts import how_many_rows
from pilenets.desk import Desk
from pilenets.errors import NoForm, NoneYet, NoNet, NoNumber, NoRow, NoText, PileError, TooMany
from pilenets.found import how_many_doings, way_out
from pilenets.joined import nets_behind, nets_beside
from pilenets.pieces import bad_piece
from pilenets.sidelines import falling_piece, line_numbers
from pilenets.sidepiles import fewest_piles
from pilenets.texts import doing_text, net_text, row_text
from tests.by_definition import IN, OUT, one_behind_the_other, side_by_side

PILE = "pile, in>0,0>out"
LINE = "line, in>0,0>out"
TWO = "pile,line, in>0,in>1,0>out,1>out"
THREE = "line,line,line, in>0,0>1,1>2,2>out"
# More than two thousand standings of five numbers, and no way out.
WIDE = "pile,pile,pile,pile,pile,pile, in>0,in>1,in>2,in>3,in>4,in>5"

NO_FORMS = [
    "", " ", "-", "nets", "Net", "NET - -", "Net - -", "net", "other", "row", "netpile, -", "net,pile, -", "row,1", "row1",
    "rows1", " net - -", " row 1", "\tnet - -", "net\t- -", "net\n- -", "net - -\n", "\nnet - -", "net pile,\n -",
    "net \n", "other - -\n", "row 1\n", "row 1\n2", "row\n1", "row \n", "Row 1", "ROW 1", "Other - -",
    "way ", " way", "way  ", "way 1", "way -", "ways", "Way", "WAY", "way\n", "\nway", "wa", "way way",
    "count ", " count", "count 1", "Count", "counts", "count\n", "bad ", " bad", "bad 1", "Bad", "bad\n", "bads",
    "lines ", " lines", "lines 3", "line", "Lines", "lines\n", "piles ", " piles", "piles 3", "pile", "Piles", "piles\n",
    "rows", "rows ", "rows  ", "rows  3", "rows 3 ", " rows 3", "rows 33", "rows 03", "rows 3 4", "rows -1", "rows +1",
    "rows -", "rows a", "rows N", "rows ,", "rows 3\n", "rows \n", "rows\n3", "Rows 3", "rows 3.", "rows,3",
    "part", "part ", "part  ", "part  3", "part 3 ", " part 3", "part 33", "part 03", "part 3 4", "part -1", "part a",
    "part 3\n", "part \n", "part\n3", "Part 3", "parts 3", "part3",
    "beside ", " beside", "beside 1", "Beside", "BESIDE", "beside\n", "besides", "beside behind",
    "behind ", " behind", "behind - -", "Behind", "behind\n", "be", "in>0", "pile, -", "none", "alike", "~", "a" * 4000,
]

# (row, what reading refuses)
NO_READING = [
    ("net ", NoText), ("net  ", NoText), ("net  - -", NoText), ("net - - ", NoText), ("net -", NoText), ("net pile", NoText),
    ("net row 1", NoText), ("net heap, -", NoText), ("net pile, 0>in", NoText), ("net - in>out,", NoText),
    ("net pile, 0>0", NoNet), ("net pile, in>1", NoNet), ("net - in>out,in>out", NoNet), ("net pile,line, 0>1,1>0", NoNet),
    ("other ", NoText), ("other  - -", NoText), ("other -", NoText), ("other heap, -", NoText), ("other net - -", NoText),
    ("other pile, 0>0", NoNet), ("other pile, in>7", NoNet), ("other - in>out,in>out", NoNet),
    ("row ", NoText), ("row  ", NoText), ("row  1", NoText), ("row 1 ", NoText), ("row 1  2", NoText), ("row 01", NoText),
    ("row -0", NoText), ("row +1", NoText), ("row " + "1" * 31, NoText), ("row row", NoText), ("row - -", NoText),
]

OF_NET_AND_ROW = ["way", "count", "bad"]
OF_ROW = ["lines", "piles"]
OF_BOTH = ["part 0", "part 3", "part 4", "beside", "behind"]
EACH_FIGURE = [f"{word} {figure}" for word in ["rows", "part"] for figure in range(10)]


class Checks(unittest.TestCase):

    def said(self, desk, *told):
        """Each row gets its answer, a text."""
        for row, answer in told:
            kept = desk.say(row)
            self.assertEqual(kept, answer, row)
            self.assertIs(kept.__class__, str)

    def refused(self, kind, desk, row):
        with self.assertRaises(PileError) as caught:
            desk.say(row)
        self.assertIs(caught.exception.__class__, kind, row)

    def desk(self, *rows):
        desk = Desk()
        for row in rows:
            desk.say(row)
        return desk


class Answers(Checks):

    def test_nets_and_rows(self):
        self.said(
            Desk(), ("net " + PILE, "stations 1"), ("net - -", "stations 0"), ("other " + TWO, "stations 2"),
            ("other - in>out", "stations 0"), ("net " + WIDE, "stations 6"), ("row 3 1 2", "numbers 3"),
            ("row -", "numbers 0"), ("row -5", "numbers 1"), ("row 7 7", "numbers 2"),
            ("row " + " ".join(map(str, range(300))), "numbers 300"), ("net pile,line, 0>1,in>0", "stations 2"),
        )

    def test_of_the_net_and_the_row(self):
        self.said(
            self.desk("net " + PILE, "row 30 10 20"),
            ("way", "doing in>0 in>0 0>out in>0 0>out 0>out"), ("count", "1"), ("bad", "none"),
            ("row 20 30 10", "numbers 3"), ("way", "never 5"), ("count", "0"), ("bad", "0 1 2"),
            ("row -", "numbers 0"), ("way", "doing -"), ("count", "1"), ("bad", "none"),
            ("row 9 5 3 7 1", "numbers 5"), ("bad", "1 3 4"),
            ("net " + TWO, "stations 2"), ("row 2 1", "numbers 2"), ("way", "doing in>0 in>0 0>out 0>out"), ("count", "3"),
        )

    def test_of_the_row(self):
        self.said(
            self.desk("row 30 10 20 0"), ("lines", "3 0 1 1 2"), ("piles", "2 0 0 1 0"),
            ("row 20 30 10", "numbers 3"), ("lines", "2 0 0 1"), ("piles", "2 0 1 0"),
            ("row -", "numbers 0"), ("lines", "0"), ("piles", "0"),
            ("row -7", "numbers 1"), ("lines", "1 0"), ("piles", "1 0"),
        )

    def test_rows_of_a_length(self):
        self.said(
            self.desk("net " + PILE),
            ("rows 0", "1"), ("rows 1", "1"), ("rows 2", "2"), ("rows 3", "5"), ("rows 4", "14"), ("rows 5", "42"),
            ("rows 6", "132"), ("net " + LINE, "stations 1"), ("rows 6", "1"), ("net - -", "stations 0"), ("rows 0", "1"),
            ("rows 3", "0"),
        )

    def test_rows_that_part(self):
        self.said(
            self.desk("net " + PILE, "other " + LINE),
            ("part 0", "alike"), ("part 1", "alike"), ("part 2", "1 0"), ("part 3", "1 0"), ("part 4", "1 0"),
            ("other " + TWO, "stations 2"), ("part 2", "alike"), ("part 3", "1 2 0"), ("part 4", "1 2 0"),
            ("other - -", "stations 0"), ("part 0", "alike"), ("part 1", "0"),
            ("other " + PILE, "stations 1"), ("part 4", "alike"),
        )

    def test_put_together(self):
        desk = self.desk("net " + PILE, "other " + LINE)
        self.said(desk, ("beside", "stations 2"), ("rows 3", "6"), ("rows 4", "24"), ("row 2 3 1", "numbers 3"))
        self.said(desk, ("way", "doing in>0 in>1 in>0 0>out 0>out 1>out"), ("part 2", "1 0"))
        desk = self.desk("net " + PILE, "other " + LINE, "row 2 1")
        self.said(desk, ("behind", "stations 2"), ("way", "doing in>0 in>0 0>1 0>1 1>out 1>out"), ("rows 3", "5"))

    def test_put_together_the_other_one_stays(self):
        desk = self.desk("net " + TWO, "other " + LINE)
        self.said(
            desk, ("beside", "stations 3"), ("behind", "stations 4"), ("beside", "stations 5"), ("behind", "stations 6"),
            ("net " + LINE, "stations 1"), ("part 4", "alike"), ("net " + PILE, "stations 1"), ("part 4", "1 0"),
        )

    def test_put_together_twice(self):
        desk = self.desk("net " + TWO, "other " + TWO)
        for word in ["beside", "beside"]:
            desk.say(word)
        self.refused(NoNet, desk, "beside")
        net = side_by_side(["pile", "line"] * 3)
        self.check_net(desk, net)
        desk = self.desk("net " + PILE, "other " + PILE)
        self.said(desk, ("behind", "stations 2"), ("behind", "stations 3"))
        self.check_net(desk, one_behind_the_other(["pile"] * 3))

    def check_net(self, desk, net):
        for row in [[], [5], [2, 1], [2, 3, 1], [4, 2, 3, 1]]:
            desk.say("row " + row_text(row))
            kind, told = way_out(net, row)
            self.said(desk, ("way", "doing " + doing_text(told)), ("count", str(how_many_doings(net, row))))

    def test_by_the_stages(self):
        nets = [
            ([], []), ([], [(IN, OUT)]), side_by_side(["pile"]), side_by_side(["line", "pile"]),
            one_behind_the_other(["pile", "line"]), (["pile"], [(IN, OUT), (IN, 0), (0, OUT)]),
        ]
        rows = [[], [4], [2, 1], [1, 2], [2, 3, 1], [30, 10, 20, 0], [-1, 5, 3, -7]]
        for one, other in itertools.product(nets, repeat=2):
            desk = self.desk("net " + net_text(one), "other " + net_text(other))
            for row in rows:
                desk.say("row " + row_text(row))
                self.check_stages(desk, one, row)
            self.said(desk, *[(f"rows {n}", str(how_many_rows(one, n))) for n in range(5)])
            for most in range(4):
                row = first_parting(one, other, most)
                self.said(desk, (f"part {most}", "alike" if row is None else row_text(row)))
            for word, put in [("beside", nets_beside), ("behind", nets_behind)]:
                desk.say("net " + net_text(one))
                both = put(one, other)
                self.said(desk, (word, f"stations {len(both[0])}"))
                self.check_stages(desk, both, rows[-1])

    def check_stages(self, desk, net, row):
        kind, told = way_out(net, row)
        answer = "doing " + doing_text(told) if kind == "doing" else f"never {len(told)}"
        bad = bad_piece(net, row)
        many, marks = fewest_piles(row)
        self.said(
            desk, ("way", answer), ("count", str(how_many_doings(net, row))),
            ("bad", "none" if bad is None else " ".join(map(str, bad))),
            ("lines", " ".join(map(str, [len(falling_piece(row))] + line_numbers(row)))),
            ("piles", " ".join(map(str, [many] + marks))),
        )

    def test_what_was_told_last_counts(self):
        self.said(
            self.desk("net " + PILE, "row 2 3 1"), ("bad", "0 1 2"), ("net " + TWO, "stations 2"), ("bad", "none"),
            ("net " + LINE, "stations 1"), ("bad", "0 2"), ("row 1 2 3", "numbers 3"), ("bad", "none"),
        )


class Refusals(Checks):

    def desks(self):
        """Desks ahead of a net, another one and a row, behind each of them, and behind all."""
        told = ["net " + PILE, "other " + LINE, "row 2 1"]
        for many in range(4):
            for rows in itertools.combinations(told, many):
                yield self.desk(*rows)

    def test_rows_of_no_form(self):
        for desk in self.desks():
            for row in NO_FORMS:
                self.refused(NoForm, desk, row)

    def test_what_reading_refuses(self):
        for desk in self.desks():
            for row, kind in NO_READING:
                self.refused(kind, desk, row)

    def test_ahead_of_all(self):
        for row in OF_NET_AND_ROW + OF_ROW + OF_BOTH + EACH_FIGURE:
            self.refused(NoneYet, Desk(), row)

    def test_ahead_of_a_net(self):
        for rows in [["row 2 1"], ["other " + PILE], ["other " + PILE, "row 2 1"], ["row 1 1"]]:
            for row in OF_NET_AND_ROW + OF_BOTH + EACH_FIGURE:
                self.refused(NoneYet, self.desk(*rows), row)

    def test_ahead_of_another_one(self):
        for rows in [["net " + PILE], ["net " + WIDE], ["net " + PILE, "row 2 1"]]:
            for row in OF_BOTH + EACH_FIGURE[10:]:
                self.refused(NoneYet, self.desk(*rows), row)

    def test_ahead_of_a_row(self):
        for rows in [["net " + PILE], ["other " + PILE], ["net " + WIDE, "other " + WIDE]]:
            for row in OF_NET_AND_ROW + OF_ROW:
                self.refused(NoneYet, self.desk(*rows), row)

    def test_what_is_asked_needs_no_more(self):
        for row in EACH_FIGURE[:7]:
            self.desk("net " + PILE).say(row)
        for row in OF_ROW:
            self.desk("row 2 1").say(row)
        for row in OF_NET_AND_ROW:
            self.desk("net " + PILE, "row 2 1").say(row)
        for row in OF_BOTH:
            self.desk("net " + PILE, "other " + PILE).say(row)

    def test_what_the_stages_refuse(self):
        desk = self.desk("net " + PILE, "other " + LINE, "row 7 3 7")
        for row in OF_NET_AND_ROW + OF_ROW:
            self.refused(NoRow, desk, row)
        for figure in [7, 8, 9]:
            self.refused(NoNumber, desk, f"rows {figure}")
        for figure in [5, 6, 7, 8, 9]:
            self.refused(NoNumber, desk, f"part {figure}")

    def test_too_many_standings(self):
        desk = self.desk("net " + WIDE, "other " + LINE, "row 5 3 1 4 2")
        for row in OF_NET_AND_ROW + ["rows 5", "rows 6"]:
            self.refused(TooMany, desk, row)
        self.said(desk, ("rows 4", "0"), ("lines", "3 0 1 2 1 2"), ("row 5 3 1 4", "numbers 4"), ("way", "never 1555"))

    def test_put_together_of_more_than_six_stations(self):
        for net, other in [(WIDE, PILE), (PILE, WIDE), (WIDE, WIDE), (THREE, "line," * 4 + " -"), (WIDE, LINE)]:
            desk = self.desk("net " + net, "other " + other)
            for word in ["beside", "behind"]:
                self.refused(NoNet, desk, word)
        for net, other in [(WIDE, "- -"), ("- -", WIDE), (THREE, THREE), (THREE, "line," * 3 + " -")]:
            for word in ["beside", "behind"]:
                self.said(self.desk("net " + net, "other " + other), (word, "stations 6"))

    def test_the_order_of_refusals(self):
        # No form goes ahead of what reading refuses, and ahead of what isn't there.
        self.refused(NoForm, Desk(), "net heap,\n")
        self.refused(NoForm, Desk(), "net pile, 0>0\n")
        self.refused(NoForm, Desk(), "row 1 \n")
        self.refused(NoForm, Desk(), "way ")
        self.refused(NoForm, Desk(), "rows 77")
        # What reading refuses goes ahead of what isn't there; no text ahead of no net.
        self.refused(NoText, Desk(), "net pile, 0>0,")
        self.refused(NoNet, Desk(), "other pile, 0>0")
        # What isn't there goes ahead of what the stages refuse.
        self.refused(NoneYet, Desk(), "rows 9")
        self.refused(NoneYet, self.desk("net " + PILE), "part 9")
        self.refused(NoneYet, self.desk("other " + PILE), "part 9")
        self.refused(NoneYet, self.desk("row 1 1"), "way")
        self.refused(NoneYet, self.desk("other " + WIDE), "beside")
        self.refused(NoneYet, self.desk("net " + WIDE), "behind")
        # Of what the stages refuse the stages tell which goes first.
        self.refused(NoRow, self.desk("net " + WIDE, "row 5 3 1 4 2 5"), "way")
        self.refused(NoNumber, self.desk("net " + WIDE), "rows 7")

    def test_what_is_refused_changes_nothing(self):
        asked = OF_NET_AND_ROW + OF_ROW + ["rows 3", "part 3"]
        wrong = NO_FORMS + [row for row, _ in NO_READING] + ["rows 7", "part 5", "part 9"]
        desk = self.desk("net " + PILE, "other " + LINE, "row 2 3 1")
        answers = [desk.say(row) for row in asked]
        for row in wrong:
            with self.assertRaises(PileError):
                desk.say(row)
            self.assertEqual([desk.say(row) for row in asked], answers)
        self.said(desk, ("beside", "stations 2"), ("bad", "none"))

    def test_a_net_that_is_too_great_changes_nothing(self):
        desk = self.desk("net " + THREE, "other " + TWO, "row 3 1 2")
        desk.say("beside")
        answers = [desk.say(row) for row in ["way", "count", "rows 3", "part 3"]]
        for word in ["beside", "behind", "beside"]:
            self.refused(NoNet, desk, word)
            self.assertEqual([desk.say(row) for row in ["way", "count", "rows 3", "part 3"]], answers)
        self.said(desk, ("other " + LINE, "stations 1"), ("behind", "stations 6"))

    def test_what_is_refused_ahead_of_all_is_not_there(self):
        desk = Desk()
        for row in ["net heap, -", "net pile, 0>0", "other heap, -", "other pile, 0>0", "row 01", "row 1\n"]:
            with self.assertRaises(PileError):
                desk.say(row)
        for row in OF_NET_AND_ROW + OF_ROW + OF_BOTH + EACH_FIGURE:
            self.refused(NoneYet, desk, row)


class Desks(Checks):

    def test_two_desks_know_nothing_of_one_another(self):
        one, other = Desk(), Desk()
        one.say("net " + PILE)
        self.refused(NoneYet, other, "rows 3")
        other.say("row 2 3 1")
        self.refused(NoneYet, one, "lines")
        other.say("net " + TWO)
        one.say("row 4 3 2 1")
        self.said(one, ("rows 3", "5"), ("lines", "4 0 1 2 3"), ("bad", "none"))
        self.said(other, ("rows 3", "6"), ("lines", "2 0 0 1"), ("bad", "none"))
        other.say("other " + PILE)
        self.refused(NoneYet, one, "beside")
        self.said(other, ("behind", "stations 3"))
        self.said(one, ("rows 3", "5"))

    def test_asked_in_any_order_the_answers_stay(self):
        chance = random.Random(4)
        asked = OF_NET_AND_ROW + OF_ROW + EACH_FIGURE[:5] + OF_BOTH[:3]
        desk = self.desk("net " + TWO, "other " + PILE, "row 20 40 10 50 30")
        answers = {row: desk.say(row) for row in asked}
        for _ in range(200):
            row = chance.choice(asked)
            self.said(desk, (row, answers[row]))

    def test_like_a_desk_that_was_not_asked_what_is_refused(self):
        chance = random.Random(5)
        rows = ["net " + PILE, "net " + TWO, "other " + LINE, "other - in>out", "row 2 3 1", "row 1 1", "row -"]
        rows += OF_NET_AND_ROW + OF_ROW + OF_BOTH + ["rows 2", "rows 7", "part 5", "net heap, -", "row 01", "way "]
        for _ in range(150):
            desk, taken = Desk(), []
            for row in [chance.choice(rows) for _ in range(12)]:
                try:
                    answer = desk.say(row)
                except PileError:
                    continue
                taken.append(row)
                fresh = Desk()
                self.assertEqual([fresh.say(told) for told in taken][-1], answer)


if __name__ == "__main__":
    unittest.main()
