"""[12] and [17] to [22]: nets, ways and what is told of them, by small nets."""

import unittest

from gatequarters.errors import InvalidCount
from gatequarters.quarters import Quarter, Town
from gatequarters.ways import are_heights, heights, is_narrow_lot, is_shortest_way, is_way, is_widest_way, narrow_lot
from gatequarters.ways import needed_streets, net_places, net_streets, shortest_way, trades, used_streets, way_length
from gatequarters.ways import way_width, wide_length, widest_way
from tests.support import HOME, ONE, TWO, odd_objects, plain

# The word x means a crossing of the quarter, and a place of the town beside it.
TWIN = Quarter([("p", "a", "x", 3, 1), ("q", "x", "b", 2, 1), ("r", "b", "a", 1, 0)], ["a", "b", "lone"])
AROUND = Town([("p", "x", "a", 4, 2), ("s", "b", "x", 5, 2), ("t", "x", "end", 0, 0), ("u", "end", "b", 1, 9)])
INNER, OUTER = ("quarter", "x"), ("town", "x")
# From in to out: a short narrow way, a long wide one, one that both of these better, and one that is shut.
BOTH = Quarter([("low", "in", "out", 1, 1), ("high", "in", "out", 3, 5), ("bad", "in", "out", 2, 6),
                ("off", "in", "out", 0, 0)], ["in", "out"])
# From g to h by two rows of length 2, one of two streets and one of three, and by a longer street.
GRID = Quarter([("a", "g", "x", 1, 1), ("b", "x", "h", 1, 1), ("c", "g", "y", 1, 0), ("d", "y", "z", 1, 2),
                ("e", "z", "h", 1, 0), ("f", "g", "h", 1, 3)], ["g", "h"])
NOTHING = Town([])


class Nets(unittest.TestCase):
    def test_streets_ascend_whatever_their_names(self):
        self.assertEqual(net_streets(TWIN, AROUND), [
            ("quarter", "p"), ("quarter", "q"), ("quarter", "r"),
            ("town", "p"), ("town", "s"), ("town", "t"), ("town", "u")])
        self.assertEqual(net_streets(Quarter([], ["a"]), NOTHING), [])

    def test_places_ascend_whatever_their_words(self):
        self.assertEqual(net_places(TWIN, AROUND), [
            ("gate", "a"), ("gate", "b"), ("gate", "lone"), ("quarter", "x"), ("town", "end"), ("town", "x")])
        self.assertEqual(net_places(Quarter([], ["a"]), NOTHING), [("gate", "a")])
        self.assertEqual(net_places(ONE, HOME), [("gate", "in"), ("gate", "out"), ("town", "home"), ("town", "shop")])

    def test_a_place_of_the_town_is_not_the_crossing_of_its_word(self):
        self.assertEqual(shortest_way(TWIN, AROUND, "x", "b"), [("town", "p"), ("quarter", "p"), ("quarter", "q")])
        self.assertEqual(way_length(TWIN, AROUND, "a", "x"), 4)
        self.assertIs(is_way(TWIN, AROUND, "a", "x", [("quarter", "p")]), False)
        self.assertIs(is_way(TWIN, AROUND, "x", "b", [("quarter", "q")]), False)

    def test_the_town_meets_the_quarter_at_the_gates(self):
        self.assertEqual(shortest_way(ONE, Town([("by", "in", "out", 1, 0)]), "in", "out"), [("town", "by")])
        self.assertIsNone(way_length(TWIN, AROUND, "a", "lone"))


class IsWay(unittest.TestCase):
    def test_ways(self):
        full = [("town", "go"), ("quarter", "main"), ("town", "come")]
        self.assertIs(is_way(ONE, HOME, "home", "shop", full), True)
        self.assertIs(is_way(ONE, HOME, "in", "out", [("quarter", "main")]), True)
        self.assertIs(is_way(ONE, HOME, "home", "out", full[:2]), True)

    def test_a_way_may_come_to_a_place_again(self):
        ring = [("quarter", "p"), ("quarter", "q"), ("quarter", "r")]
        self.assertIs(is_way(TWIN, AROUND, "a", "b", ring + ring[:2]), True)
        self.assertIs(is_way(TWIN, AROUND, "a", "b", ring * 5 + ring[:2]), True)
        self.assertIs(is_way(TWIN, AROUND, "b", "a", ring[2:] + ring), True)

    def test_other_lists_are_no_ways(self):
        full = [("town", "go"), ("quarter", "main"), ("town", "come")]
        wrong = [full[:2], full[1:], full[::-1], full + full[2:], [full[0], full[2]], [], tuple(full),
                 dict.fromkeys(full), [list(name) for name in full], full[:2] + [("town", "zz")],
                 [("town", "go"), ("town", "main"), ("town", "come")], ["go", "main", "come"],
                 [("town", "go", 1)] + full[1:], full[:2] + [None], full[:1] + [[("quarter", "main")]] + full[2:]]
        for value in wrong + odd_objects():
            self.assertIs(is_way(ONE, HOME, "home", "shop", value), False, value)

    def test_no_street_of_a_way_is_shut(self):
        self.assertIs(is_way(BOTH, HOME, "in", "out", [("quarter", "off")]), False)
        self.assertIs(is_way(BOTH, HOME, "in", "out", [("quarter", "bad")]), True)
        self.assertIs(is_way(TWIN, AROUND, "x", "end", [("town", "t")]), False)


class Shortest(unittest.TestCase):
    def test_the_least_length(self):
        self.assertEqual(way_length(ONE, HOME, "home", "shop"), 4)
        self.assertEqual(way_length(BOTH, HOME, "in", "shop"), 3)
        self.assertEqual(way_length(GRID, NOTHING, "g", "h"), 2)

    def test_none_without_a_way(self):
        for goal in ["home", "in"]:
            self.assertIsNone(way_length(ONE, HOME, "shop", goal))
            self.assertIsNone(shortest_way(ONE, HOME, "shop", goal))
            self.assertIs(is_shortest_way(ONE, HOME, "shop", goal, None), False)
            self.assertIs(is_shortest_way(ONE, HOME, "shop", goal, []), False)

    def test_as_few_streets_as_can_be(self):
        short = [("quarter", "a"), ("quarter", "b")]
        self.assertEqual(shortest_way(GRID, NOTHING, "g", "h"), short)
        self.assertIs(is_shortest_way(GRID, NOTHING, "g", "h", short), True)
        long = [("quarter", "c"), ("quarter", "d"), ("quarter", "e")]
        self.assertIs(is_way(GRID, NOTHING, "g", "h", long), True)
        for value in [long, [("quarter", "f")], short[:1], short + short, short[::-1], tuple(short)]:
            self.assertIs(is_shortest_way(GRID, NOTHING, "g", "h", value), False, value)

    def test_any_of_the_shortest_does(self):
        for name in ["left", "right"]:
            value = [("town", "go"), ("quarter", name), ("town", "come")]
            self.assertIs(is_shortest_way(TWO, HOME, "home", "shop", value), True)

    def test_a_shorter_way_found_late(self):
        # The way of most streets is the shortest one, and its streets stand in an unlucky order.
        late = Quarter([("a", "y", "h", 1, 1), ("b", "x", "y", 1, 1), ("c", "g", "x", 1, 1), ("d", "g", "y", 1, 5),
                        ("e", "g", "h", 1, 9)], ["g", "h"])
        self.assertEqual(shortest_way(late, NOTHING, "g", "h"), [("quarter", "c"), ("quarter", "b"), ("quarter", "a")])
        self.assertEqual(way_length(late, NOTHING, "g", "h"), 3)


class Heights(unittest.TestCase):
    def test_heights_tell_the_least_length(self):
        told = heights(ONE, HOME, "home", "shop")
        self.assertEqual(plain(told), plain({
            ("gate", "in"): 1, ("gate", "out"): 2, ("town", "home"): 0, ("town", "shop"): 4}))
        self.assertIs(are_heights(ONE, HOME, "home", "shop", told), True)

    def test_none_where_nothing_leads(self):
        told = heights(ONE, HOME, "shop", "home")
        self.assertEqual(list(told), net_places(ONE, HOME))
        self.assertEqual([told[("town", "shop")], told[("town", "home")]], [0, None])
        self.assertIs(are_heights(ONE, HOME, "shop", "home", told), True)

    def test_keys_stand_in_whatever_order(self):
        told = heights(ONE, HOME, "home", "shop")
        self.assertIs(are_heights(ONE, HOME, "home", "shop", {key: told[key] for key in list(told)[::-1]}), True)

    def test_heights_need_not_be_least_lengths(self):
        # Between the start and the goal a place may stand lower, and places aside anywhere below.
        told = {("gate", "in"): 0, ("gate", "out"): 4}
        quarter = Quarter([("far", "in", "out", 1, 4), ("a", "in", "x", 1, 3), ("b", "x", "out", 1, 3)], ["in", "out"])
        for height, right in [(0, False), (1, True), (2, True), (3, True), (4, False), (None, False)]:
            value = {**told, ("quarter", "x"): height}
            self.assertIs(are_heights(quarter, NOTHING, "in", "out", value), right, height)

    def test_places_that_nothing_reaches_may_stand_anywhere(self):
        quarter = Quarter([("far", "in", "out", 1, 4), ("shut", "in", "x", 0, 0)], ["in", "out"])
        for height, right in [(0, True), (10 ** 29, True), (None, True), (-1, False), (True, False), ("0", False)]:
            value = {("gate", "in"): 0, ("gate", "out"): 4, ("quarter", "x"): height}
            self.assertIs(are_heights(quarter, NOTHING, "in", "out", value), right, height)

    def test_other_dictionaries_are_none(self):
        told = heights(ONE, HOME, "home", "shop")
        wrong = [{**told, ("town", "home"): 1}, {**told, ("town", "home"): None}, {**told, ("town", "home"): False},
                 {**told, ("town", "shop"): 3}, {**told, ("town", "shop"): 5}, {**told, ("town", "shop"): None},
                 {**told, ("gate", "in"): True}, {**told, ("gate", "in"): 2}, {**told, ("gate", "in"): None},
                 {**told, ("gate", "in"): -1}, {**told, ("gate", "in"): [1]}, {**told, ("gate", "in"): "1"},
                 {**told, ("town", "zz"): 0}, {**told, None: None}, {}, list(told.items()), tuple(told.items())]
        wrong += [{key: told[key] for key in told if key != gone} for gone in told]
        wrong += [{**{key: told[key] for key in told if key != gone}, 0: told[gone]} for gone in told]
        wrong += [{"in": 1, "out": 2, "home": 0, "shop": 4}]
        for value in wrong + odd_objects():
            self.assertIs(are_heights(ONE, HOME, "home", "shop", value), False, value)

    def test_the_goal_is_none_only_without_a_way(self):
        value = {("gate", "in"): None, ("gate", "out"): None, ("town", "home"): 0, ("town", "shop"): None}
        self.assertIs(are_heights(ONE, HOME, "home", "shop", value), False)
        shut = Town([("go", "home", "in", 0, 1), ("come", "out", "shop", 5, 2)])
        self.assertIs(are_heights(ONE, shut, "home", "shop", value), True)
        self.assertIs(are_heights(ONE, shut, "home", "shop", {**value, ("town", "shop"): 9}), False)


class Widest(unittest.TestCase):
    def test_the_greatest_width(self):
        self.assertEqual(way_width(ONE, HOME, "home", "shop"), 2)
        self.assertEqual(way_width(TWO, HOME, "home", "shop"), 1)
        self.assertEqual(way_width(BOTH, HOME, "home", "shop"), 3)
        way = [("town", "go"), ("quarter", "high"), ("town", "come")]
        self.assertEqual(widest_way(BOTH, HOME, "home", "shop"), way)

    def test_nothing_without_a_way(self):
        self.assertEqual(way_width(ONE, HOME, "shop", "home"), 0)
        self.assertEqual(plain(way_width(ONE, HOME, "shop", "home")), "0")
        self.assertIsNone(widest_way(ONE, HOME, "shop", "home"))
        self.assertIs(is_widest_way(ONE, HOME, "shop", "home", None), False)
        self.assertIs(is_widest_way(ONE, HOME, "shop", "home", []), False)

    def test_any_way_of_this_width_does(self):
        value = [("quarter", "p"), ("quarter", "q")]
        ring = value + [("quarter", "r")] + value
        self.assertEqual(way_width(TWIN, AROUND, "a", "b"), 2)
        self.assertIs(is_widest_way(TWIN, AROUND, "a", "b", value), True)
        self.assertIs(is_widest_way(TWIN, AROUND, "a", "b", ring), False)
        wide = Town([("back", "b", "a", 7, 9)])
        self.assertIs(is_widest_way(TWIN, wide, "a", "b", value + [("town", "back")] + value), True)

    def test_other_objects_are_none(self):
        right = [("quarter", "high")]
        for value in [[("quarter", "low")], [("quarter", "bad")], [("quarter", "off")], [], tuple(right), right * 2]:
            self.assertIs(is_widest_way(BOTH, NOTHING, "in", "out", value), False)
        self.assertIs(is_widest_way(BOTH, NOTHING, "in", "out", right), True)

    def test_a_narrow_lot_holds_every_way(self):
        lot = [("gate", "in"), ("town", "home")]
        self.assertEqual(narrow_lot(ONE, HOME, "home", "shop"), lot)
        self.assertIs(is_narrow_lot(ONE, HOME, "home", "shop", lot), True)
        self.assertIs(is_narrow_lot(ONE, HOME, "home", "shop", lot[1:]), False)

    def test_without_a_way_only_shut_streets_lead_out(self):
        shut = Quarter([("main", "in", "out", 0, 1)], ["in", "out"])
        self.assertEqual(narrow_lot(shut, HOME, "home", "shop"), [("gate", "in"), ("town", "home")])
        self.assertIs(is_narrow_lot(shut, HOME, "home", "shop", [("town", "home")]), False)

    def test_other_lots_are_none(self):
        right = [("gate", "in"), ("town", "home")]
        wrong = [right[::-1], right + right[1:], tuple(right), right[:1], [], right + [("town", "shop")],
                 [("gate", "in"), ("gate", "zz"), ("town", "home")], right + [("town", "zz")], ["home", "in"],
                 [["gate", "in"], ["town", "home"]], dict.fromkeys(right), [None] + right, right + [right]]
        for value in wrong + odd_objects():
            self.assertIs(is_narrow_lot(ONE, HOME, "home", "shop", value), False, value)


class Used(unittest.TestCase):
    def test_streets_of_some_and_of_every_shortest_way(self):
        self.assertEqual(used_streets(TWO, HOME, "in", "shop"),
                         [("quarter", "left"), ("quarter", "right"), ("town", "come")])
        self.assertEqual(needed_streets(TWO, HOME, "in", "shop"), [("town", "come")])
        names = ["a", "b", "c", "d", "e"]
        self.assertEqual(used_streets(GRID, NOTHING, "g", "h"), [("quarter", name) for name in names])
        self.assertEqual(needed_streets(GRID, NOTHING, "g", "h"), [])

    def test_nothing_without_a_way(self):
        self.assertEqual(used_streets(ONE, HOME, "shop", "home"), [])
        self.assertEqual(needed_streets(ONE, HOME, "shop", "home"), [])

    def test_shut_streets_are_never_used(self):
        self.assertEqual(used_streets(BOTH, NOTHING, "in", "out"), [("quarter", "low")])
        self.assertEqual(needed_streets(BOTH, NOTHING, "in", "out"), [("quarter", "low")])

    def test_rings_of_length_0_are_used(self):
        # A shortest way may go around the ring and come to a place again.
        ring = Quarter([("a", "in", "x", 1, 0), ("b", "x", "in", 1, 0), ("c", "in", "out", 1, 2)], ["in", "out"])
        self.assertEqual(used_streets(ring, NOTHING, "in", "out"), [("quarter", name) for name in "abc"])
        self.assertEqual(needed_streets(ring, NOTHING, "in", "out"), [("quarter", "c")])


class Trades(unittest.TestCase):
    def test_the_least_length_of_wide_ways(self):
        lengths = [wide_length(BOTH, NOTHING, "in", "out", width) for width in [0, 1, 2, 3, 4, 20000, 10 ** 29]]
        self.assertEqual(lengths, [1, 1, 5, 5, None, None, None])

    def test_what_is_no_count_is_refused(self):
        for width in [-1, True, False, None, "1", [1], (1,), {}]:
            with self.assertRaises(InvalidCount) as caught:
                wide_length(BOTH, NOTHING, "in", "out", width)
            self.assertIs(caught.exception.value, width)

    def test_ways_that_none_betters(self):
        self.assertEqual(plain(trades(BOTH, HOME, "home", "shop")), plain([(1, 4), (3, 8)]))
        self.assertEqual(trades(TWO, HOME, "home", "shop"), [(1, 4)])
        self.assertEqual(trades(ONE, HOME, "shop", "home"), [])

    def test_a_width_that_no_way_has_is_not_told(self):
        row = Quarter([("a", "in", "x", 2, 1), ("b", "x", "out", 7, 1), ("c", "in", "out", 5, 2)], ["in", "out"])
        self.assertEqual(trades(row, NOTHING, "in", "out"), [(5, 2)])

    def test_each_is_held_against_the_one_beside_it(self):
        rows = [("high", "in", "out", 3, 5), ("low", "in", "out", 1, 3), ("mean", "in", "out", 2, 3)]
        self.assertEqual(trades(Quarter(rows, ["in", "out"]), NOTHING, "in", "out"), [(2, 3), (3, 5)])

    def test_two_quarters_alike_in_ways_and_widths_may_be_told_apart(self):
        other = Quarter(BOTH.streets() + [("mean", "in", "out", 2, 3)], ["in", "out"])
        self.assertEqual(way_length(BOTH, NOTHING, "in", "out"), way_length(other, NOTHING, "in", "out"))
        self.assertEqual(way_width(BOTH, NOTHING, "in", "out"), way_width(other, NOTHING, "in", "out"))
        self.assertEqual(trades(other, NOTHING, "in", "out"), [(1, 1), (2, 3), (3, 5)])


if __name__ == "__main__":
    unittest.main()
