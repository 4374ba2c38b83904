"""[47] to [52]: the edges that the document names, and what is no bar."""

import unittest

from gatequarters import rooms
from gatequarters.errors import InvalidCount, InvalidMeasure, InvalidName
from gatequarters.quarters import Quarter
from tests.support import LANE, MEASURES, ONE, TWO

ALONE = Quarter([("off", "x", "a", 2, 1), ("on", "a", "x", 3, 1)], ["a"])
PAIR = Quarter([("thin", "in", "out", 1, 3), ("wide", "in", "out", 2, 1)], ["in", "out"])
NECK = Quarter([("last", "mid", "out", 1, 0), ("left", "in", "mid", 1, 1), ("right", "in", "mid", 1, 1)], ["in", "out"])
SHUT = Quarter([("by", "in", "out", 3, 2), ("main", "in", "out", 0, 5)], ["in", "out"])


class Rooms(unittest.TestCase):
    def test_one_gate_alone_notices_nothing(self):
        for measure in MEASURES:
            self.assertEqual(rooms.entries_with(ALONE, "on", 7, measure), {})
            self.assertEqual(rooms.noticed_at(ALONE, "on", 7, measure), [])
            self.assertEqual(rooms.width_room(ALONE, "on", measure), (0, None))
            self.assertEqual(rooms.width_bars(ALONE, "on", measure), (None, None))
            self.assertIs(rooms.are_width_bars(ALONE, "on", measure, (None, None)), True)
            self.assertEqual(rooms.trade_room(ALONE, "on", 9, "off", measure), (0, None))
            self.assertIsNone(rooms.trade_bars(ALONE, "on", 9, "off", measure))
            self.assertIs(rooms.are_trade_bars(ALONE, "on", 9, "off", measure, []), False)
        self.assertEqual(rooms.length_room(ALONE, "on"), (0, None))
        self.assertEqual(rooms.length_bars(ALONE, "on"), (None, None))

    def test_shut_streets(self):
        self.assertEqual(rooms.length_room(SHUT, "main"), (0, None))
        self.assertEqual(rooms.length_bars(SHUT, "main"), (None, None))
        self.assertEqual(rooms.width_room(SHUT, "main", "most"), (0, 0))
        self.assertEqual(rooms.width_room(SHUT, "main", "widest"), (0, 3))
        self.assertEqual(rooms.width_room(SHUT, "main", "way"), (0, None))
        self.assertEqual(rooms.width_room(SHUT, "main", "shut1"), (0, 0))
        self.assertEqual(rooms.width_room(SHUT, "main", "shut2"), (0, None))
        short = Quarter([("by", "in", "out", 3, 9), ("main", "in", "out", 0, 5)], ["in", "out"])
        self.assertEqual(rooms.width_room(short, "main", "way"), (0, 0))
        self.assertEqual(rooms.width_bars(short, "main", "way"), (None, ("in", "out")))
        self.assertEqual(rooms.width_room(short, "by", "way"), (1, None))
        self.assertEqual(rooms.width_bars(short, "by", "way"), (("in", "out"), None))

    def test_a_street_alone(self):
        self.assertEqual(rooms.width_room(ONE, "main", "most"), (2, 2))
        self.assertEqual(rooms.width_room(ONE, "main", "widest"), (2, 2))
        self.assertEqual(rooms.width_room(ONE, "main", "shut1"), (0, None))
        self.assertEqual(rooms.width_room(ONE, "main", "way"), (1, None))
        self.assertEqual(rooms.length_room(ONE, "main"), (1, 1))
        self.assertEqual(rooms.length_bars(ONE, "main"), (("in", "out"), ("in", "out")))

    def test_idle_streets(self):
        for name in ("ax", "yb", "ba"):
            self.assertEqual(rooms.length_room(LANE, name), (0, None))
        self.assertEqual(rooms.width_room(LANE, "ax", "most"), (0, None))
        self.assertEqual(rooms.width_room(LANE, "ba", "most"), (0, 0))

    def test_widths_up_to_20000_and_above_9_are_taken_as_they_are(self):
        wide = Quarter([("main", "in", "out", 20000, 20000), ("side", "in", "out", 15000, 20000)], ["in", "out"])
        self.assertEqual(rooms.width_room(wide, "side", "widest"), (0, 20000))
        self.assertEqual(rooms.width_room(wide, "side", "most"), (15000, 15000))
        self.assertEqual(rooms.width_room(wide, "main", "shut1"), (15000, None))
        self.assertEqual(rooms.width_room(wide, "side", "shut1"), (15000, 15000))
        self.assertEqual(rooms.length_room(wide, "main"), (20000, None))
        self.assertEqual(rooms.noticed_at(wide, "side", 20000, "widest"), [])
        self.assertEqual(rooms.noticed_at(wide, "side", 20001, "widest"), [("in", "out")])
        self.assertEqual(rooms.entries_with(ONE, "main", 12, "most"), {("in",): 12, ("out",): 0})
        self.assertEqual(rooms.trade_room(wide, "main", 10000, "side", "most"), (25000, 25000))

    def test_only_the_keys_at_the_very_ends_of_a_room_bar(self):
        # Beside the thin street a width of 2 leads to b, and one of 3 to c; beside the wide one 6 and 7.
        streets = [("ab", "a", "b", 2, 2), ("ac", "a", "c", 3, 3), ("thin", "a", "x", 1, 9), ("xb", "x", "b", 9, 0),
                   ("xc", "x", "c", 9, 0)]
        quarter = Quarter(streets, ["a", "b", "c"])
        self.assertEqual(rooms.width_room(quarter, "thin", "widest"), (0, 2))
        self.assertEqual(rooms.width_bars(quarter, "thin", "widest"), (None, ("a", "b")))
        self.assertIs(rooms.are_width_bars(quarter, "thin", "widest", (None, ("a", "c"))), False)
        self.assertEqual(rooms.noticed_at(quarter, "thin", 4, "widest"), [("a", "b"), ("a", "c")])
        self.assertEqual(rooms.length_room(quarter, "thin"), (3, None))
        self.assertIs(rooms.are_length_bars(quarter, "thin", (("a", "c"), None)), True)
        self.assertIs(rooms.are_length_bars(quarter, "thin", (("a", "b"), None)), False)
        inward = Quarter([("bx", "b", "x", 6, 0), ("cx", "c", "x", 7, 0), ("wide", "x", "a", 9, 0)], ["a", "b", "c"])
        self.assertEqual(rooms.width_room(inward, "wide", "widest"), (7, None))
        self.assertIs(rooms.are_width_bars(inward, "wide", "widest", (("c", "a"), None)), True)
        self.assertIs(rooms.are_width_bars(inward, "wide", "widest", (("b", "a"), None)), False)

    def test_what_is_no_bar(self):
        bars = (None, ("in", "out"))
        self.assertIs(rooms.are_width_bars(PAIR, "thin", "widest", bars), True)
        for value in (list(bars), (None, None), (("in", "out"), ("in", "out")), (None, ("out", "in")), bars + (None,),
                      (None,), None, (None, ["in", "out"]), (None, "in"), (False, ("in", "out")), (0, ("in", "out"))):
            self.assertIs(rooms.are_width_bars(PAIR, "thin", "widest", value), False)
        both = (("in", "out"), ("in", "out"))
        self.assertIs(rooms.are_length_bars(PAIR, "wide", both), True)
        for value in (list(both), (None, None), bars, bars[::-1], both + (None,), None, (("in", "out"), ["in", "out"])):
            self.assertIs(rooms.are_length_bars(PAIR, "wide", value), False)


class Trades(unittest.TestCase):
    def test_a_narrower_street_wants_a_wider_one_beside_it(self):
        self.assertEqual(rooms.trade_room(TWO, "left", 2, "right", "most"), (0, 0))
        self.assertEqual(rooms.trade_room(TWO, "left", 0, "right", "most"), (2, 2))
        self.assertEqual(rooms.trade_room(NECK, "left", 0, "right", "most"), (1, None))
        self.assertEqual(rooms.trade_room(NECK, "left", 1, "right", "most"), (0, None))

    def test_one_bar_and_two(self):
        self.assertEqual(rooms.trade_bars(TWO, "left", 3, "right", "most"), [("in",)])
        fork = Quarter([("ba", "b", "a", 2, 1), ("ca", "c", "a", 2, 1)], ["a", "b", "c"])
        asked = (fork, "ca", 3, "ba", "most")
        self.assertIsNone(rooms.trade_room(*asked))
        self.assertIs(rooms.are_trade_bars(*asked, rooms.trade_bars(*asked)), True)
        # One more out of c alone; together they bar, as 2 are wanted for b and 1 for both.
        bars = [("b",), ("b", "c")]
        self.assertIs(rooms.are_trade_bars(*asked, bars), True)
        self.assertIs(rooms.are_trade_bars(*asked, [("c",)]), True)
        for value in (bars[:1], bars[1:], bars[::-1], tuple(bars), [], bars + [("c",)], None, [None] + bars,
                      [list(bar) for bar in bars], bars + bars[1:], [("a",)], [("c",), ("c",)], [("b", "a"), ("c",)]):
            self.assertIs(rooms.are_trade_bars(*asked, value), False, value)

    def test_where_there_is_a_width_there_are_no_bars(self):
        self.assertIsNone(rooms.trade_bars(TWO, "left", 2, "right", "most"))
        for value in (None, [], [("in",)], [("in",), ("out",)]):
            self.assertIs(rooms.are_trade_bars(TWO, "left", 2, "right", "most", value), False)

    def test_errors_in_their_order(self):
        def refused(call, arguments, error, value):
            with self.assertRaises(error) as caught:
                call(*arguments)
            self.assertIs(caught.exception.value, value)

        for call in (rooms.trade_room, rooms.trade_bars, lambda *row: rooms.are_trade_bars(*row, None)):
            refused(call, (TWO, "main", None, None, None), InvalidName, "main")
            refused(call, (TWO, "left", True, "left", None), InvalidCount, True)
            refused(call, (TWO, "left", 1, "left", None), InvalidName, "left")
            refused(call, (TWO, "left", 1, "main", None), InvalidName, "main")
            refused(call, (TWO, "left", 1, "right", "shut"), InvalidMeasure, "shut")
        for call in (rooms.entries_with, rooms.noticed_at):
            refused(call, (TWO, "left", -1, None), InvalidCount, -1)
            refused(call, (TWO, "left", 1, None), InvalidMeasure, None)


if __name__ == "__main__":
    unittest.main()
