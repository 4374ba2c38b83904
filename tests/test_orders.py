"""[43] to [46]: the edges that the document names, and what is no worse town or mending lot."""

import unittest

from gatequarters import orders
from gatequarters.alike import asked, is_alike
from gatequarters.errors import InvalidLot, InvalidMeasure, InvalidName
from gatequarters.quarters import Quarter, Town
from tests.support import HOME, MEASURES, ONE, TWO

ROW = Quarter([("first", "in", "mid", 1, 1), ("second", "mid", "out", 1, 1)], ["in", "out"])
SHUT = Quarter([("main", "in", "out", 0, 5)], ["in", "out"])
NONE = Quarter([], ["in", "out"])
ALONE = Quarter([("on", "a", "x", 3, 1)], ["a"])


class Standing(unittest.TestCase):
    def test_one_gate_alone(self):
        other = Quarter([], ["a"])
        for measure in MEASURES:
            self.assertIs(orders.never_worse(ALONE, other, measure), True)
            self.assertEqual(orders.standing(ALONE, other, measure), "alike")
            self.assertEqual(orders.worse_entries(ALONE, other, measure), [])
            self.assertEqual(orders.greatest_loss(ALONE, other, measure), 0)
            self.assertIsNone(orders.worse_town(ALONE, other, measure))
            town = Town([("s", "s", "a", 1, 1)])
            self.assertIs(orders.is_worse_town(ALONE, other, measure, (town, "s", "a")), False)
        self.assertEqual(orders.mending_lots(ALONE, other, "most"), [[]])

    def test_no_streets(self):
        self.assertEqual(orders.standing(NONE, ONE, "most"), "better")
        self.assertEqual(orders.standing(ONE, NONE, "most"), "worse")
        self.assertEqual(orders.standing(ONE, NONE, "way"), "worse")
        self.assertEqual(orders.greatest_loss(ONE, NONE, "most"), 2)
        self.assertEqual(orders.greatest_loss(ONE, NONE, "widest"), 2)
        self.assertIsNone(orders.greatest_loss(ONE, NONE, "way"))
        self.assertEqual(orders.greatest_loss(NONE, ONE, "way"), 0)
        self.assertEqual(orders.mending_lots(ONE, NONE, "most"), [])
        self.assertEqual(orders.mending_lots(NONE, NONE, "way"), [[]])

    def test_no_way_is_worse_than_each_length(self):
        self.assertEqual(orders.worse_entries(ROW, SHUT, "way"), [("in", "out")])
        self.assertEqual(orders.worse_entries(SHUT, ROW, "way"), [])
        self.assertIsNone(orders.greatest_loss(ROW, SHUT, "way"))
        self.assertEqual(orders.greatest_loss(ONE, ROW, "way"), 1)

    def test_mixed(self):
        turned = Quarter([("main", "out", "in", 2, 1)], ["in", "out"])
        for measure in ("most", "way", "widest"):
            self.assertEqual(orders.standing(ONE, turned, measure), "mixed")
            self.assertEqual(orders.worse_entries(ONE, turned, measure)[0][0], "in")
        self.assertEqual(orders.standing(ONE, turned, "shut1"), "alike")

    def test_one_way_may_go_through_the_quarter_twice(self):
        gates = ["a", "b", "c", "d"]
        elder = Quarter([("p", "a", "b", 1, 1), ("q", "c", "d", 1, 2)], gates)
        newer = Quarter([("p", "a", "b", 1, 4), ("q", "c", "d", 1, 7)], gates)
        self.assertEqual(orders.greatest_loss(elder, newer, "way"), 8)
        town = Town([("by", "b", "c", 1, 0)])
        self.assertEqual([asked(quarter, "way", town, "a", "d") for quarter in (elder, newer)], [3, 11])
        short = newer.streets() + [("r", "a", "d", 1, 6)]
        self.assertEqual(orders.greatest_loss(elder, Quarter(short, gates), "way"), 8)
        between = newer.streets() + [("r", "a", "d", 1, 9), ("s", "c", "b", 1, 9)]
        self.assertEqual(orders.greatest_loss(elder, Quarter(between, gates), "way"), 6)
        shorter = short + [("s", "c", "b", 1, 6)]
        self.assertEqual(orders.greatest_loss(elder, Quarter(shorter, gates), "way"), 5)
        self.assertEqual(orders.greatest_loss(newer, elder, "way"), 0)

    def test_alike_is_never_worse_both_ways(self):
        for measure in MEASURES:
            both = orders.never_worse(ONE, TWO, measure) and orders.never_worse(TWO, ONE, measure)
            self.assertIs(is_alike(ONE, TWO, measure), both)


class Towns(unittest.TestCase):
    def test_what_is_no_worse_town(self):
        self.assertIs(orders.is_worse_town(ONE, TWO, "widest", (HOME, "home", "shop")), True)
        for value in (None, (), [HOME, "home", "shop"], (HOME, "home"), (HOME, "home", "home"), (ONE, "in", "out"),
                      (HOME, "shop", "home"), (HOME, "home", "none"), (HOME, None, "shop"), (None, "in", "out")):
            self.assertIs(orders.is_worse_town(ONE, TWO, "widest", value), False)
        self.assertIs(orders.is_worse_town(TWO, ONE, "widest", (HOME, "home", "shop")), False)

    def test_no_measure(self):
        for measure in (None, "shut", ["most"], True):
            for call in (orders.never_worse, orders.standing, orders.greatest_loss, orders.worse_town,
                         orders.worse_entries, orders.mending_lots):
                with self.assertRaises(InvalidMeasure) as caught:
                    call(ONE, TWO, measure)
                self.assertIs(caught.exception.value, measure)


class Mending(unittest.TestCase):
    def test_measures_of_mending(self):
        for measure in ("shut1", "shut2"):
            with self.assertRaises(InvalidMeasure):
                orders.mending_lots(ONE, TWO, measure)
            with self.assertRaises(InvalidMeasure):
                orders.is_mending(ONE, TWO, measure, None)
        with self.assertRaises(InvalidMeasure):
            orders.least_width(ONE, TWO, "left", "way")

    def test_lots_of_streets(self):
        for lot in (["right", "left"], ("left",), ["main"], ["left", "left"], None, "left", {"left": 1}):
            with self.assertRaises(InvalidLot) as caught:
                orders.is_mending(ONE, TWO, "widest", lot)
            self.assertIs(caught.exception.value, lot)
        self.assertIs(orders.is_mending(ONE, TWO, "widest", []), False)
        self.assertIs(orders.is_mending(ONE, TWO, "widest", ["left", "right"]), True)

    def test_shut_streets_are_opened(self):
        self.assertEqual(orders.mending_lots(ONE, SHUT, "way"), [["main"]])
        self.assertEqual(orders.mending_lots(ONE, SHUT, "most"), [["main"]])
        self.assertEqual(orders.mending_lots(ONE, SHUT, "widest"), [["main"]])
        self.assertEqual(orders.least_width(ONE, SHUT, "main", "most"), 2)
        self.assertEqual(orders.least_width(ONE, SHUT, "main", "shut1"), 0)

    def test_a_way_back_is_not_mended(self):
        turned = Quarter([("main", "out", "in", 2, 1)], ["in", "out"])
        self.assertEqual(orders.mending_lots(ONE, turned, "way"), [])
        self.assertIs(orders.is_mending(ONE, turned, "most", ["main"]), False)
        self.assertIsNone(orders.least_width(ONE, turned, "main", "most"))

    def test_least_widths_begin_with_the_own_one(self):
        wide = Quarter([("main", "in", "out", 9, 1)], ["in", "out"])
        self.assertEqual(orders.least_width(ONE, wide, "main", "most"), 9)
        self.assertEqual(orders.least_width(wide, ONE, "main", "most"), 9)
        self.assertEqual(orders.least_width(wide, TWO, "left", "most"), 8)
        self.assertEqual(orders.least_width(wide, TWO, "left", "shut2"), 1)
        self.assertIsNone(orders.least_width(Quarter([(name, "in", "out", 9, 1) for name in "pq"], ["in", "out"]),
                                             TWO, "left", "shut1"))
        for name in ("main", None, "", True):
            with self.assertRaises(InvalidName) as caught:
                orders.least_width(ONE, TWO, name, "way")
            self.assertIs(caught.exception.value, name)

    def test_widths_up_to_20000(self):
        wide = Quarter([("main", "in", "out", 20000, 20000)], ["in", "out"])
        self.assertEqual(orders.least_width(wide, TWO, "right", "most"), 19999)
        self.assertEqual(orders.greatest_loss(wide, TWO, "most"), 19998)
        self.assertEqual(orders.greatest_loss(ONE, wide, "way"), 19999)

    def test_ten_streets_and_five_gates(self):
        gates = ["a", "b", "c", "d", "e"]
        elder = Quarter([("s" + gate, gate, "x", 2, 1) for gate in gates] + [("t" + gate, "x", gate, 2, 1) for gate in gates], gates)
        newer = Quarter([("s" + gate, gate, "x", 1, 2) for gate in gates] + [("t" + gate, "x", gate, 1, 2) for gate in gates], gates)
        every = sorted(street[0] for street in newer.streets())
        for measure in ("most", "widest"):
            self.assertEqual(orders.mending_lots(elder, newer, measure), [every])
        self.assertEqual(len(orders.mending_lots(elder, newer, "way")), 7)


if __name__ == "__main__":
    unittest.main()
