"""Points 5 and 6, and point 2 of nets: a net is made, or refused."""

import itertools
import unittest

from pilenets.errors import NoNet
from pilenets.nets import net_of

IN = -1
OUT = -2


def subsets(things):
    """All lists of some of these things, each in their order."""
    for many in range(len(things) + 1):
        for chosen in itertools.combinations(things, many):
            yield list(chosen)


def has_an_order(many, ways):
    """Whether, in some order of the stations, each way between two leads to a later one."""
    inner = [(a, b) for a, b in ways if a != IN and b != OUT]
    for order in itertools.permutations(range(many)):
        if all(order.index(a) < order.index(b) for a, b in inner):
            return True
    return False


class NetsMade(unittest.TestCase):

    def test_a_net_is_its_stations_and_its_ways_sorted(self):
        ways = [(1, OUT), (0, 1), (IN, 0)]
        self.assertEqual(
            net_of(["pile", "line"], ways),
            (["pile", "line"], [(IN, 0), (0, 1), (1, OUT)]),
        )

    def test_kinds_of_values_are_tuple_and_lists(self):
        net = net_of(["line"], [(IN, 0), (0, OUT)])
        self.assertIs(net.__class__, tuple)
        self.assertEqual(len(net), 2)
        stations, ways = net
        self.assertIs(stations.__class__, list)
        self.assertIs(ways.__class__, list)
        self.assertEqual([way.__class__ for way in ways], [tuple, tuple])

    def test_stations_keep_their_order(self):
        stations = ["pile", "line", "line", "pile"]
        self.assertEqual(net_of(stations, []), (["pile", "line", "line", "pile"], []))

    def test_ways_in_any_order_make_the_same_net(self):
        ways = [(IN, OUT), (IN, 0), (0, OUT), (0, 1), (1, OUT)]
        for handed in itertools.permutations(ways):
            self.assertEqual(
                net_of(["pile", "pile"], list(handed)),
                (["pile", "pile"], [(IN, OUT), (IN, 0), (0, OUT), (0, 1), (1, OUT)]),
            )

    def test_no_stations(self):
        self.assertEqual(net_of([], []), ([], []))

    def test_straight_out(self):
        self.assertEqual(net_of([], [(IN, OUT)]), ([], [(IN, OUT)]))
        self.assertEqual(net_of(["line"], [(IN, OUT)]), (["line"], [(IN, OUT)]))

    def test_no_ways(self):
        self.assertEqual(net_of(["pile", "line"], []), (["pile", "line"], []))

    def test_stations_that_no_way_leads_to_or_from_are_let(self):
        self.assertEqual(
            net_of(["pile", "line", "pile"], [(2, OUT), (IN, 2)]),
            (["pile", "line", "pile"], [(IN, 2), (2, OUT)]),
        )
        self.assertEqual(net_of(["pile"], [(IN, 0)]), (["pile"], [(IN, 0)]))
        self.assertEqual(net_of(["pile"], [(0, OUT)]), (["pile"], [(0, OUT)]))

    def test_ways_may_lead_to_stations_of_lesser_numbers(self):
        self.assertEqual(
            net_of(["pile"] * 3, [(2, 1), (1, 0), (IN, 2), (0, OUT)])[1],
            [(IN, 2), (0, OUT), (1, 0), (2, 1)],
        )

    def test_ways_that_part_and_meet_again_lead_not_round_about(self):
        ways = [(0, 1), (0, 2), (1, 3), (2, 3)]
        self.assertEqual(net_of(["line"] * 4, ways)[1], ways)

    def test_all_the_ways_that_six_stations_in_an_order_let(self):
        ways = [(a, b) for a in range(6) for b in range(a + 1, 6)]
        ways += [(IN, s) for s in range(6)] + [(s, OUT) for s in range(6)] + [(IN, OUT)]
        self.assertEqual(net_of(["pile"] * 6, ways)[1], sorted(ways))

    def test_greater_nets_are_made_too(self):
        ways = [(s, s + 1) for s in range(2999)]
        self.assertEqual(net_of(["line"] * 3000, ways[::-1])[1], ways)

    def test_what_is_told_may_be_handed_in(self):
        net = net_of(["pile", "line"], [(1, OUT), (0, 1), (IN, 0)])
        self.assertEqual(net_of(net[0], net[1]), net)


class NetsRefused(unittest.TestCase):

    def refused(self, stations, ways):
        with self.assertRaises(NoNet) as caught:
            net_of(stations, ways)
        self.assertIs(caught.exception.__class__, NoNet)

    def test_another_word(self):
        for word in ["", "Pile", "LINE", "piles", "line ", "pile,line", "in", "out", "queue"]:
            self.refused([word], [])
            self.refused(["pile", word, "line"], [(IN, 0), (0, OUT)])
            self.refused(["pile", "line", word], [])

    def test_to_in(self):
        for a in [IN, OUT, 0, 1]:
            self.refused(["pile", "line"], [(a, IN)])

    def test_from_out(self):
        for b in [IN, OUT, 0, 1]:
            self.refused(["pile", "line"], [(OUT, b)])

    def test_from_or_to_a_station_that_there_is_not(self):
        for station in [2, 3, 99, -3, -4, 10 ** 29]:
            self.refused(["pile", "line"], [(station, OUT)])
            self.refused(["pile", "line"], [(IN, station)])
            self.refused(["pile", "line"], [(station, 0)])
            self.refused(["pile", "line"], [(0, station)])
        self.refused([], [(IN, 0)])
        self.refused([], [(0, OUT)])

    def test_a_way_that_is_none_among_good_ones(self):
        self.refused(["pile", "line"], [(IN, 0), (0, 1), (1, 2), (1, OUT)])

    def test_things_that_are_no_pair_of_whole_numbers(self):
        for thing in [(), (0,), (0, 1, 1), (0, "1"), ("in", 0), (0, None), (True, OUT), (IN, True),
                      (IN, False), [0, 1], 0, "01", None, ((0, 1), 1)]:
            self.refused(["pile", "line"], [thing])

    def test_from_a_station_to_itself(self):
        self.refused(["pile"], [(0, 0)])
        self.refused(["pile", "line"], [(IN, 0), (0, 1), (1, 1), (1, OUT)])

    def test_a_way_twice(self):
        self.refused([], [(IN, OUT), (IN, OUT)])
        self.refused(["pile"], [(IN, 0), (0, OUT), (IN, 0)])
        self.refused(["pile", "line"], [(0, 1), (IN, 0), (0, 1)])
        self.refused(["pile"], [(0, OUT), (0, OUT)])

    def test_round_about_over_two_stations(self):
        self.refused(["pile", "line"], [(0, 1), (1, 0)])
        self.refused(["pile", "line"], [(IN, 0), (0, 1), (1, 0), (1, OUT)])

    def test_round_about_over_more_stations(self):
        for many in range(3, 7):
            ways = [(s, (s + 1) % many) for s in range(many)]
            self.refused(["line"] * many, ways)
            self.refused(["line"] * many, ways[::-1])
            self.refused(["line"] * many, ways + [(IN, 0), (many - 1, OUT)])

    def test_round_about_beside_stations_that_are_free(self):
        self.refused(["pile"] * 5, [(IN, 0), (0, 1), (1, OUT), (2, 3), (3, 4), (4, 2)])
        self.refused(["pile"] * 5, [(0, 1), (1, 2), (2, 3), (3, 1), (3, 4)])

    def test_every_set_of_ways_among_three_and_four_stations(self):
        for many in [3, 4]:
            inner = [(a, b) for a in range(many) for b in range(many) if a != b]
            for ways in subsets(inner):
                if has_an_order(many, ways):
                    self.assertEqual(net_of(["pile"] * many, ways[::-1]), (["pile"] * many, ways))
                else:
                    self.refused(["pile"] * many, ways)

    def test_every_pair_of_small_numbers_as_the_one_way(self):
        for a in range(-5, 5):
            for b in range(-5, 5):
                good = a in (IN, 0, 1) and b in (OUT, 0, 1) and a != b
                if good:
                    self.assertEqual(net_of(["line", "pile"], [(a, b)])[1], [(a, b)])
                else:
                    self.refused(["line", "pile"], [(a, b)])


class NetsOfTheAskersOwn(unittest.TestCase):

    def test_what_is_handed_in_stays_as_it_was(self):
        stations = ["pile", "line"]
        ways = [(1, OUT), (IN, 0), (0, 1)]
        net_of(stations, ways)
        self.assertEqual(stations, ["pile", "line"])
        self.assertEqual(ways, [(1, OUT), (IN, 0), (0, 1)])

    def test_what_is_refused_stays_as_it_was(self):
        for stations, ways in [
            (["pile", "heap"], [(1, OUT), (IN, 0)]),
            (["pile", "line"], [(1, OUT), (IN, 7)]),
            (["pile", "line"], [(1, OUT), (IN, 0), (1, OUT)]),
            (["pile", "line"], [(1, 0), (IN, 0), (0, 1)]),
        ]:
            kept = (list(stations), list(ways))
            with self.assertRaises(NoNet):
                net_of(stations, ways)
            self.assertEqual((stations, ways), kept)

    def test_lists_handed_in_and_changed_later_change_no_net(self):
        stations = ["pile", "line"]
        ways = [(IN, 0), (0, 1), (1, OUT)]
        net = net_of(stations, ways)
        stations.append("pile")
        stations[0] = "line"
        ways.clear()
        self.assertEqual(net, (["pile", "line"], [(IN, 0), (0, 1), (1, OUT)]))

    def test_a_net_that_is_changed_changes_nothing(self):
        for stations, ways in [([], []), (["pile"], [(IN, 0), (0, OUT)])]:
            kept = (list(stations), list(ways))
            first = net_of(stations, ways)
            first[0].append("line")
            first[1].append((IN, OUT))
            self.assertEqual((stations, ways), kept)
            self.assertEqual(net_of(stations, ways), kept)

    def test_two_nets_share_no_list(self):
        first = net_of([], [])
        second = net_of([], [])
        first[0].append("pile")
        first[1].append((IN, 0))
        self.assertEqual(second, ([], []))


if __name__ == "__main__":
    unittest.main()
