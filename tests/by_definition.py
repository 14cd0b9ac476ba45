"""What tests share: small nets and rows, the document's words done step by step, and checks of points 2 and 3."""

import copy
import itertools
import unittest

IN = -1
OUT = -2
TOP = 10 ** 60 - 1

# Lists in which two numbers are alike.
ALIKE = [[1, 1], [3, 1, 2, 3], [0, 0, 0], [TOP, 5, TOP], [-TOP, -TOP], [2, 3, 1, 1]]

# Things that are no lists of whole numbers from 0 to below three, one for each of four places.
NO_MARKS = [
    None, True, 0, 4, TOP, "0012", b"0012", (0, 0, 1, 2), {0: 0, 1: 0, 2: 1, 3: 2}, {0, 1, 2}, range(4), len,
    [], [0], [0, 0, 1], [0, 0, 1, 2, 2], [0] * 300, [[0, 0, 1, 2]], [(0, 0, 1, 2)],
    [0, 0, 1, 3], [3, 0, 1, 2], [0, 0, 1, -1], [-1, 0, 1, 2], [0, 0, TOP, 1], [0, -TOP, 0, 1], [0, 10 ** 29, 0, 1],
    [0, 0, 1, True], [False, 0, 1, 2], [0, 0, 1, "2"], [0, 0, 1, None], [0, 0, 1, 2.0], [0, 0, 1, (2,)],
    [0, 0, 1, [2]], ["0", "0", "1", "2"], [None] * 4, [0, 0, 1, len],
]


def subsets(things):
    """All lists of some of these things, each in their order."""
    for many in range(len(things) + 1):
        for chosen in itertools.combinations(things, many):
            yield list(chosen)


def nets_of_stations(many):
    """All nets of so many stations, at most two."""
    ways = [(IN, OUT)] + [(IN, s) for s in range(many)] + [(s, OUT) for s in range(many)]
    for words in itertools.product(["pile", "line"], repeat=many):
        for between in [[], [(0, 1)], [(1, 0)]][:1 if many < 2 else 3]:
            for chosen in subsets(ways):
                yield list(words), sorted(chosen + between)


def side_by_side(words):
    """The net with a way from in to each station and from each one to out."""
    numbers = range(len(words))
    return list(words), sorted([(IN, s) for s in numbers] + [(s, OUT) for s in numbers])


def one_behind_the_other(words):
    """The net with one way, from in through all stations in their order."""
    stops = [IN, *range(len(words)), OUT]
    return list(words), sorted(zip(stops, stops[1:]))


# Nets and rows by which about two thousand standings are found (the tests count them anew).
NEVER_2000 = (["pile", "line"], [(IN, OUT), (IN, 0), (IN, 1), (0, OUT)]), [7, 8, 1, 0, 3, 2, 5, 4, 6]
NEVER_2000_OF_LINES = (["line"] * 3, [(IN, 0), (IN, 2), (0, 1), (1, OUT), (2, 1)]), [3, 1, 0, 4, 2, 5]
NEVER_2001 = (["pile", "pile"], [(IN, 0), (IN, 1), (1, OUT)]), [0, 1, 8, 5, 2, 7, 3, 4, 6]
NEVER_2001_OF_THREE = (
    (["line"] * 3, [(IN, OUT), (IN, 0), (IN, 1), (0, OUT), (0, 2), (2, 1)]), [5, 1, 0, 3, 4, 2],
)
LAST_IS_2000TH = (
    (["pile", "pile"], [(IN, OUT), (IN, 0), (IN, 1), (0, OUT), (1, OUT)]), [7, 0, 1, 6, 5, 2, 4, 3, 8],
)
LAST_IS_2000TH_OF_MORE = (
    (["pile", "pile", "line", "line", "line", "pile"], [
        (IN, 0), (IN, 2), (IN, 3), (IN, 5), (0, OUT), (1, OUT), (1, 5), (2, 0), (3, OUT), (3, 0), (3, 1), (3, 4),
        (4, OUT), (4, 0), (4, 1), (4, 5), (5, OUT),
    ]), [2, 3, 1, 0],
)
LAST_IS_2002ND = side_by_side(["pile", "line"]), [1, 5, 0, 2, 3, 8, 6, 7, 4]
LAST_IS_2002ND_OF_MORE = (
    (["pile", "pile", "line"], [(IN, OUT), (IN, 0), (0, OUT), (0, 2), (1, 2), (2, OUT)]), [2, 1, 0, 6, 4, 5, 3],
)
JUST_2000_WITH_THE_LAST = side_by_side(["pile", "line"]), [0, 1, 4, 6, 2, 7, 8, 3, 5]
JUST_2001_WITH_THE_LAST = side_by_side(["line", "pile"]), [2, 5, 4, 0, 3, 1, 8, 6, 7]


def rows_of(many):
    """All rows of so many numbers that are put to their order."""
    return [list(row) for row in itertools.permutations(range(many))]


def rows_up_to(most):
    return [row for many in range(most + 1) for row in rows_of(many)]


def ordered(row):
    """A row put to its order, by counting."""
    return [sum(other < number for other in row) for number in row]


def first_of(net):
    return (0, tuple(() for _ in net[0]), 0)


def last_of(net, row):
    return (len(row), tuple(() for _ in net[0]), len(row))


def done(net, row, standing, move):
    """(number, standing behind) of one of the net's ways, None where it may not be done."""
    order = ordered(row)
    gone, held, out = standing
    held = [list(numbers) for numbers in held]
    a, b = move
    if a == IN:
        if gone == len(order):
            return None
        number = order[gone]
        gone += 1
    elif not held[a]:
        return None
    elif net[0][a] == "pile":
        number = held[a].pop()
    else:
        number = held[a].pop(0)
    if b == OUT:
        if number != out:
            return None
        out += 1
    else:
        held[b].append(number)
    return number, (gone, tuple(tuple(numbers) for numbers in held), out)


def walked(net, row, doing):
    """(numbers moved, last standing) of a doing, None where a move may not be done."""
    standing = first_of(net)
    numbers = []
    for move in doing:
        step = done(net, row, standing, move) if move in net[1] else None
        if step is None:
            return None
        numbers.append(step[0])
        standing = step[1]
    return numbers, standing


def found_by_lists(net, row):
    """Each standing, in the order of 14, with its first shortest list of moves and how many there are.

    All lists of moves that may be done are written down, by length and then as
    lists: no list is left out because its standing was there before.
    """
    found = {first_of(net): [[], 1]}
    lists = [([], first_of(net))]
    while lists:
        longer = []
        for moves, standing in lists:
            for move in net[1]:
                step = done(net, row, standing, move)
                if step is not None:
                    longer.append((moves + [move], step[1]))
        longer.sort()
        for moves, standing in longer:
            first = found.setdefault(standing, [moves, 0])
            if len(first[0]) == len(moves):
                first[1] += 1
        lists = longer
    return found


def reached_from(net, row, starts, most=None):
    """All standings that moves lead to from these ones, these included; about so many at most."""
    reached = list(starts)
    seen = set(starts)
    for standing in reached:
        if most is not None and len(reached) > most:
            break
        for move in net[1]:
            step = done(net, row, standing, move)
            if step is not None and step[1] not in seen:
                seen.add(step[1])
                reached.append(step[1])
    return reached


def is_out(net, row):
    """Whether the last standing of a row is among all that can be come to."""
    return last_of(net, row) in reached_from(net, row, [first_of(net)])


def pieces_that_fall(row):
    """All lists of places, rising, whose numbers fall, in the order of lists."""
    lists = [[]]
    for place in range(len(row)):
        lists += [places + [place] for places in lists if not places or row[places[-1]] > row[place]]
    return sorted(lists)


def against(row):
    """The pairs of places that stand against one another, by the words of 34."""
    numbers = range(len(row))
    return [
        (i, j) for i in numbers for j in numbers
        if i < j and row[i] < row[j] and any(row[k] < row[i] for k in numbers if k > j)
    ]


def all_good_marks(row, many, begun=()):
    """All good marks for so many piles, in the order of lists."""
    place = len(begun)
    if place == len(row):
        yield list(begun)
        return
    rivals = [i for i, j in against(row) if j == place]
    for mark in range(many):
        if all(begun[rival] != mark for rival in rivals):
            yield from all_good_marks(row, many, (*begun, mark))


def branches(row, many, begun=()):
    """The paper of branches of 37, behind some marks, of a row without good ones."""
    place = len(begun)
    unused = min(mark for mark in range(place + 1) if mark not in begun)
    papers = []
    for mark in range(many):
        leaves = [("against", i, j) for i, j in against(row) if j == place and begun[i] == mark]
        if mark <= unused:
            papers.append(leaves[0] if leaves else branches(row, many, (*begun, mark)))
    return ("branch", place, papers)


def doing_by(word, row, many, marks):
    """The doing of 33 and 38, step by step: out if that may be done anywhere, else in."""
    net = side_by_side([word] * many)
    standing = first_of(net)
    doing = []
    while standing != last_of(net, row):
        move = next((way for way in net[1] if way[1] == OUT and done(net, row, standing, way)), None)
        if move is None:
            move = (IN, marks[standing[0]])
        doing.append(move)
        standing = done(net, row, standing, move)[1]
    return doing


def kinds(thing):
    """The class of a thing and, of a list or a tuple, those of all that is in it."""
    if isinstance(thing, (list, tuple)):
        return [thing.__class__, *map(kinds, thing)]
    return thing.__class__


def spoil(thing):
    """Change every list in a thing."""
    if isinstance(thing, (list, tuple)):
        for part in thing:
            spoil(part)
    if isinstance(thing, list):
        thing.reverse()
        thing.append("spoilt")
        del thing[:1]
        thing.append((7, -7))


class Checks(unittest.TestCase):
    """Checks of points 2 and 3 at each answer and each refusal."""

    def exactly(self, one, other):
        """Both are alike, and so are the kinds of all that is in them."""
        self.assertEqual(one, other)
        self.assertEqual(kinds(one), kinds(other))

    def told(self, expected, ask, *handed):
        """This is told, nothing handed in is changed or kept, and what is told is the asker's own."""
        handed = copy.deepcopy(handed)
        kept = copy.deepcopy(handed)
        answer = ask(*handed)
        self.exactly(answer, expected)
        self.exactly(handed, kept)
        spoil(answer)
        self.exactly(handed, kept)
        answer = ask(*handed)
        self.exactly(answer, expected)
        spoil(handed)
        self.exactly(answer, expected)
        self.exactly(ask(*copy.deepcopy(kept)), expected)

    def refused(self, kind, ask, *handed):
        """Just this class is raised, and what is handed in stays as it was."""
        kept = copy.deepcopy(handed)
        with self.assertRaises(kind) as caught:
            ask(*handed)
        self.assertIs(caught.exception.__class__, kind)
        self.exactly(handed, kept)
