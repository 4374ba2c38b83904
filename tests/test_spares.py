"""[54] to [60]: the edges that the document names, and what is no list of names or positions."""

import unittest

from gatequarters import spares
from gatequarters.errors import InvalidChanges, InvalidLot, InvalidMeasure, InvalidQuarter
from gatequarters.quarters import Quarter
from tests.support import LANE, MEASURES, ONE, TWO

ALONE = Quarter([("off", "x", "a", 2, 1), ("on", "a", "x", 3, 1), ("shut", "a", "x", 0, 1)], ["a"])
NONE = Quarter([], ["a", "b"])
PASSAGE = Quarter([("ax", "a", "x", 1, 1), ("left", "x", "b", 1, 1), ("right", "x", "b", 1, 2), ("dead", "x", "y", 5, 1)],
                  ["a", "b"])
SHUT = Quarter([("main", "in", "out", 2, 1), ("side", "in", "out", 0, 0)], ["in", "out"])
WRONG = [None, (), ("left",), ["right", "left"], ["left", "left"], ["main"], "left", {"left": 1}, [["left"]], [True]]


class Lists(unittest.TestCase):
    def test_one_gate_alone(self):
        for measure in MEASURES:
            self.assertEqual(spares.spare_lots(ALONE, measure), [["off", "on"]])
            self.assertEqual(spares.harmful_lots(ALONE, measure), [])
            self.assertEqual(spares.unspared_streets(ALONE, measure), [])
            self.assertEqual(spares.wide_lots(ALONE, measure), [["off", "on", "shut"]])
        self.assertEqual(spares.sure_streets(ALONE), [])
        self.assertEqual(spares.dead_streets(ALONE), ["off", "on"])

    def test_no_streets(self):
        for measure in MEASURES:
            self.assertEqual(spares.spare_lots(NONE, measure), [[]])
            self.assertEqual(spares.harmful_lots(NONE, measure), [])
            self.assertEqual(spares.wide_lots(NONE, measure), [[]])
            self.assertIs(spares.is_spare(NONE, measure, []), True)
            self.assertIs(spares.is_wide(NONE, measure, []), True)
        self.assertEqual((spares.sure_streets(NONE), spares.dead_streets(NONE)), ([], []))
        self.assertEqual(spares.with_shut(NONE, []), NONE)
        self.assertEqual(spares.with_widened(NONE, []), NONE)
        self.assertEqual(spares.noticed_lots(NONE, [], "most"), [])
        self.assertEqual(spares.unnoticed_lots(NONE, [], "most"), [[]])

    def test_shut_streets_are_in_no_spare_list_but_may_be_in_a_wide_one(self):
        self.assertEqual(spares.spare_lots(SHUT, "most"), [[]])
        self.assertEqual(spares.spare_lots(SHUT, "shut1"), [["main"]])
        self.assertIs(spares.is_spare(SHUT, "shut1", ["side"]), False)
        self.assertIs(spares.is_spare(SHUT, "shut1", ["main", "side"]), False)
        self.assertEqual(spares.wide_lots(SHUT, "shut2"), [["main", "side"]])
        self.assertEqual(spares.wide_lots(SHUT, "shut1"), [["main"]])
        self.assertEqual(spares.wide_lots(SHUT, "way"), [["main"]])
        self.assertEqual(spares.unspared_streets(SHUT, "most"), ["main"])
        self.assertEqual(spares.with_shut(SHUT, ["side"]), SHUT)
        self.assertEqual(spares.with_widened(SHUT, ["side"]).streets()[1], ("side", "in", "out", 3, 0))

    def test_two_spare_streets_are_not_spare_together(self):
        self.assertIs(spares.is_spare(TWO, "way", ["left"]), True)
        self.assertIs(spares.is_spare(TWO, "way", ["right"]), True)
        self.assertIs(spares.is_spare(TWO, "way", ["left", "right"]), False)

    def test_wrong_lists(self):
        for names in WRONG:
            for call in (spares.with_shut, spares.with_widened):
                with self.assertRaises(InvalidLot) as caught:
                    call(TWO, names)
                self.assertIs(caught.exception.value, names)
            for measure in MEASURES:
                self.assertIs(spares.is_spare(TWO, measure, names), False)
                self.assertIs(spares.is_wide(TWO, measure, names), False)

    def test_dead_streets_lead_from_no_gate_to_another_one(self):
        self.assertEqual(spares.dead_streets(PASSAGE), ["dead"])
        self.assertEqual(spares.dead_streets(LANE), ["ax", "yb"])
        back = Quarter([("to", "a", "x", 1, 1), ("fro", "x", "a", 1, 1), ("on", "x", "b", 1, 1)], ["a", "b"])
        # A row may come to a crossing again: a, x, a, x, b.
        self.assertEqual(spares.dead_streets(back), [])
        blind = Quarter([("fro", "x", "a", 1, 1), ("to", "a", "x", 1, 1)], ["a", "b"])
        self.assertEqual(spares.dead_streets(blind), ["fro", "to"])

    def test_sure_streets_are_needed_by_ways_and_widths_and_flows(self):
        self.assertEqual(spares.sure_streets(ONE), ["main"])
        self.assertEqual(spares.sure_streets(TWO), [])
        self.assertEqual(spares.sure_streets(PASSAGE), ["ax"])
        pair = Quarter([("short", "in", "out", 1, 1), ("wide", "in", "out", 2, 2)], ["in", "out"])
        self.assertEqual(spares.sure_streets(pair), [])

    def test_ten_streets(self):
        many = Quarter([(name, "a", "b", 1, 1) for name in "abcdefghij"], ["a", "b", "c", "d"])
        self.assertEqual(spares.spare_lots(many, "most"), [[]])
        self.assertEqual(len(spares.spare_lots(many, "way")), 10)
        self.assertEqual(spares.harmful_lots(many, "way"), [list("abcdefghij")])
        self.assertEqual(spares.wide_lots(many, "shut1"), [[name] for name in "abcdefghij"])
        wide = Quarter([(name, "a", "x", 20000, 20000) for name in "abcdefghij"], ["a", "b", "c", "d"])
        self.assertEqual(spares.spare_lots(wide, "most"), [list("abcdefghij")])
        self.assertEqual(spares.with_widened(wide, ["a"]).streets()[0], ("a", "a", "x", 200001, 20000))


class Changes(unittest.TestCase):
    changes = [("width", "left", 2), ("width", "right", 0), ("out", "left"), ("width", "left", 2)]

    def test_one_change_makes_up_for_another_one(self):
        self.assertEqual(spares.noticed_lots(TWO, self.changes[:2], "most"), [[0], [1]])
        self.assertEqual(spares.unnoticed_lots(TWO, self.changes[:2], "most"), [[0, 1]])
        self.assertEqual(spares.unnoticed_lots(TWO, self.changes[:2], "way"), [[0, 1]])
        self.assertEqual(spares.noticed_lots(TWO, self.changes[:2], "way"), [])

    def test_lots_ascend_as_lists_do(self):
        changes = [("width", "left", 0), ("put", ("new", "in", "out", 1, 0)), ("width", "right", 0)]
        self.assertEqual(spares.noticed_lots(TWO, changes, "way"), [[0, 2], [1]])
        self.assertEqual(spares.unnoticed_lots(TWO, changes, "way"), [[0], [2]])
        self.assertEqual(spares.unnoticed_lots(TWO, changes, "most"), [[0, 1], [1, 2]])
        other = [("length", "left", 9), ("width", "left", 2), ("width", "right", 0)]
        self.assertEqual(spares.unnoticed_lots(TWO, other, "most"), [[0, 1, 2]])
        more = [("width", "left", 3), ("width", "right", 0), ("length", "left", 5), ("length", "right", 5)]
        self.assertEqual(spares.unnoticed_lots(TWO, more, "way"), [[0, 1, 3], [0, 2]])

    def test_lots_without_a_quarter(self):
        self.assertIsNone(spares.lot_quarter(TWO, self.changes, [2, 3]))
        self.assertIsNone(spares.lot_quarter(TWO, self.changes, [0, 3]))
        self.assertEqual(spares.lot_quarter(TWO, self.changes, [3]), spares.lot_quarter(TWO, self.changes, [0]))
        self.assertEqual(spares.lot_quarter(TWO, self.changes, []), TWO)
        self.assertEqual(spares.noticed_lots(TWO, self.changes, "most"), [[0], [1], [2], [3]])
        self.assertEqual(spares.unnoticed_lots(TWO, self.changes, "most"), [[0, 1], [1, 3]])
        self.assertEqual(spares.unnoticed_lots(TWO, [("out", "none"), ("put", ("left", "in", "out", 1, 1))], "most"), [[]])

    def test_wrong_lots_and_changes(self):
        for lot in ((), [0, 0], [1, 0], [4], [-1], [True], [False], [None], None, 0, {0: 0}, "0", [[0]]):
            with self.assertRaises(InvalidLot) as caught:
                spares.lot_quarter(TWO, self.changes, lot)
            self.assertIs(caught.exception.value, lot)
        for changes in (None, (), [("out",)], [("width", "left", True)], [["out", "left"]], ("out", "left")):
            with self.assertRaises(InvalidChanges) as caught:
                spares.lot_quarter(TWO, changes, None)
            self.assertIs(caught.exception.value, changes)
            for call in (spares.noticed_lots, spares.unnoticed_lots):
                with self.assertRaises(InvalidChanges):
                    call(TWO, changes, None)
                with self.assertRaises(InvalidMeasure):
                    call(TWO, [], None)
                with self.assertRaises(InvalidQuarter):
                    call(None, changes, None)


if __name__ == "__main__":
    unittest.main()
