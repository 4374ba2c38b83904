"""[31] to [36]: the edges that the document names, and what is no side, table or paper."""

import unittest

from gatequarters import tables
from gatequarters.errors import InvalidCut, InvalidLot, InvalidMeasure, InvalidPlace, InvalidTable
from gatequarters.quarters import Quarter, Town
from tests.support import HOME, LANE, MEASURES, ONE, TWO

ALONE = Quarter([("on", "a", "x", 3, 1), ("off", "x", "a", 2, 1)], ["a"])
EMPTY = Quarter([], ["a", "b", "c"])
CHAIN = Quarter([("ax", "a", "x", 1, 2), ("xb", "x", "b", 1, 3)], ["a", "b"])
WRONG_LOTS = [(), ("a", "b", "c"), ("b", "a"), ("a", "a"), ["a"], "a", ("x",), ("z",), (True,), None, (("a",),)]


class Edges(unittest.TestCase):
    def test_one_gate_alone(self):
        self.assertEqual(tables.lots_of(ALONE), [])
        for measure in MEASURES:
            self.assertEqual(tables.table_of(ALONE, measure), {})
            self.assertIs(tables.is_table(["a"], measure, {}), True)
        for call in (tables.least_side, tables.greatest_side, tables.lot_flow):
            for lot in ((), ("a",)):
                with self.assertRaises(InvalidLot):
                    call(ALONE, lot)
        for measure in ("most", "shut1", "way", "widest"):
            with self.assertRaises(InvalidLot):
                tables.entry_paper(ALONE, measure, ("a",))
        town = Town([("s", "s", "a", 3, 1), ("t", "a", "t", 2, 5)])
        answers = [tables.answer_by(["a"], measure, {}, town, "s", "t") for measure in MEASURES]
        self.assertEqual(answers, [2, 2, 2, 6, 2])

    def test_no_streets(self):
        self.assertEqual(set(tables.table_of(EMPTY, "most").values()), {0})
        self.assertEqual(set(tables.table_of(EMPTY, "shut1").values()), {0})
        self.assertEqual(set(tables.table_of(EMPTY, "shut2").values()), {0})
        self.assertEqual(set(tables.table_of(EMPTY, "way").values()), {None})
        self.assertEqual(set(tables.table_of(EMPTY, "widest").values()), {0})
        self.assertEqual(tables.lot_flow(EMPTY, ("a",)), {})
        self.assertIs(tables.is_lot_flow(EMPTY, ("a",), {}), True)
        self.assertEqual(tables.entry_paper(EMPTY, "shut1", ("b",)), ((["b"], None), {}))
        self.assertIs(tables.is_entry_paper(EMPTY, "shut1", ("b",), ((["b"], None), {})), True)
        self.assertIs(tables.is_entry_paper(EMPTY, "shut1", ("b",), ((["b"], "on"), {})), False)
        self.assertIs(tables.is_entry_paper(EMPTY, "shut1", ("b",), ((["b"], None), [])), False)
        self.assertIs(tables.is_entry_paper(EMPTY, "shut1", ("b",), ((["a"], None), {})), False)

    def test_all_are_shut_if_there_are_fewer(self):
        for measure in ("shut1", "shut2"):
            self.assertEqual(tables.table_of(ONE, measure), {("in",): 0, ("out",): 0})
        self.assertEqual(tables.table_of(TWO, "shut2"), {("in",): 0, ("out",): 0})

    def test_the_widest_streets_that_leave_a_side_are_shut_not_the_widest_of_all(self):
        wide = Quarter([("far", "x", "y", 50, 1), ("p", "a", "b", 3, 1), ("q", "a", "b", 2, 1), ("r", "a", "b", 1, 1)],
                       ["a", "b"])
        self.assertEqual([tables.table_of(wide, measure)[("a",)] for measure in MEASURES[:3]], [6, 3, 1])

    def test_another_side_can_be_narrower_once_a_street_is_shut(self):
        neck = Quarter([("p", "a", "x", 2, 1), ("q", "a", "x", 2, 1), ("r", "x", "b", 5, 1)], ["a", "b"])
        self.assertEqual([tables.table_of(neck, measure)[("a",)] for measure in MEASURES[:3]], [4, 0, 0])
        self.assertEqual(tables.entry_paper(neck, "shut1", ("a",))[0], (["a", "x"], "r"))

    def test_shut_streets_are_no_way(self):
        shut = Quarter([("main", "in", "out", 0, 1)], ["in", "out"])
        self.assertEqual(tables.table_of(shut, "way"), {("in", "out"): None, ("out", "in"): None})
        self.assertEqual(tables.table_of(shut, "widest"), {("in", "out"): 0, ("out", "in"): 0})

    def test_ways_go_by_other_gates(self):
        row = Quarter([("p", "a", "b", 3, 1), ("q", "b", "c", 2, 5)], ["a", "b", "c"])
        self.assertEqual(tables.table_of(row, "way")[("a", "c")], 6)
        self.assertEqual(tables.table_of(row, "widest")[("a", "c")], 2)

    def test_as_many_gates_crossings_and_streets_as_can_be(self):
        words = list("abcdefgh")
        streets = [("s" + word, word, "h" if word != "h" else "a", 20000, 20000) for word in words]
        streets += [("t" + word, "h", word, 20000, 0) for word in words[1:7]]
        quarter = Quarter(streets, words[:5])
        self.assertEqual(len(streets), 14)
        self.assertEqual(len(tables.table_of(quarter, "most")), 30)
        self.assertEqual(len(tables.table_of(quarter, "way")), 20)
        self.assertEqual(tables.table_of(quarter, "most")[("a", "b", "c", "d")], 20000)
        self.assertEqual(tables.table_of(quarter, "way")[("a", "e")], 20000)


class Wrong(unittest.TestCase):
    def refused(self, call, arguments, error, value):
        with self.assertRaises(error) as caught:
            call(*arguments)
        self.assertIs(caught.exception.value, value)

    def test_what_is_no_lot(self):
        for lot in WRONG_LOTS:
            for call in (tables.least_side, tables.greatest_side, tables.lot_flow):
                self.refused(call, (LANE, lot), InvalidLot, lot)
            for call in (tables.is_narrowest_side, tables.is_lot_flow):
                self.refused(call, (LANE, lot, None), InvalidLot, lot)
            self.refused(tables.entry_paper, (LANE, "most", lot), InvalidLot, lot)
            self.refused(tables.is_entry_paper, (LANE, "shut1", lot, None), InvalidLot, lot)

    def test_what_is_no_key(self):
        for key in [("a",), ("a", "a"), ["a", "b"], ("a", "x"), ("a", "b", "c"), None, "ab"]:
            for measure in ("way", "widest"):
                self.refused(tables.entry_paper, (LANE, measure, key), InvalidLot, key)
                self.refused(tables.is_entry_paper, (LANE, measure, key, None), InvalidLot, key)
        self.assertIsNotNone(tables.entry_paper(LANE, "way", ("b", "a")))
        self.refused(tables.entry_paper, (LANE, "most", ("b", "a")), InvalidLot, ("b", "a"))

    def test_what_is_no_measure(self):
        for measure in ("shut", "Most", "", None, ["most"], ("most",), True):
            self.refused(tables.table_of, (LANE, measure), InvalidMeasure, measure)
            self.refused(tables.entry_paper, (LANE, measure, ("a",)), InvalidMeasure, measure)
            self.refused(tables.is_table, (["a", "b"], measure, None), InvalidMeasure, measure)
        self.refused(tables.entry_paper, (LANE, "shut2", ("a",)), InvalidMeasure, "shut2")
        self.refused(tables.is_entry_paper, (LANE, "shut2", ("a",), None), InvalidMeasure, "shut2")

    def test_what_is_no_list_of_crossings(self):
        self.assertEqual(tables.side_width(LANE, []), 0)
        self.assertEqual(tables.side_width(LANE, ["a", "b", "c", "x", "y"]), 0)
        self.assertEqual(tables.side_width(LANE, ["x", "y"]), 3)
        for side in (["x", "a"], ["a", "a"], ("a",), ["z"], "a", None, [["a"]], {"a": 1}):
            self.refused(tables.side_width, (LANE, side), InvalidCut, side)

    def test_what_is_no_narrowest_side(self):
        self.assertIs(tables.is_narrowest_side(CHAIN, ("a",), ["a"]), True)
        self.assertIs(tables.is_narrowest_side(CHAIN, ("a",), ["a", "x"]), True)
        for side in (["x"], ["a", "b"], ["b"], ["x", "a"], ("a",), ["a", "a"], ["a", "z"], None, "a"):
            self.assertIs(tables.is_narrowest_side(CHAIN, ("a",), side), False)

    def test_tables_by_their_form_are_not_asked_whether_they_can_be(self):
        wild = {("a",): 0, ("a", "b"): 9, ("a", "c"): 0, ("b",): 0, ("b", "c"): 10 ** 29, ("c",): 0}
        self.assertIs(tables.is_table(["a", "b", "c"], "most", wild), True)
        self.assertEqual(tables.answer_by(["a", "b", "c"], "most", wild, Town([]), "a", "b"), 0)
        for measure in MEASURES:
            for value in (None, [], wild, {("a",): 0}, {("a", "b"): 0}, [("a", "b")], {"a": 0, "b": 0}):
                self.refused(tables.answer_by, (["a", "b"], measure, value, Town([]), "a", "b"), InvalidTable, value)

    def test_places_of_an_answer(self):
        table = tables.table_of(ONE, "most")
        for place in ("mid", None, ("gate", "in"), "", True):
            self.refused(tables.answer_by, (["in", "out"], "most", table, HOME, place, "in"), InvalidPlace, place)
            self.refused(tables.answer_by, (["in", "out"], "most", table, HOME, "in", place), InvalidPlace, place)
        self.refused(tables.answer_by, (["in", "out"], "most", table, HOME, "in", "in"), InvalidPlace, "in")


class Papers(unittest.TestCase):
    def judged(self, measure, key, value, quarter=CHAIN):
        return tables.is_entry_paper(quarter, measure, key, value)

    def test_papers_of_most(self):
        flow, idle = {"ax": 1, "xb": 1}, {"ax": 0, "xb": 0}
        self.assertIs(self.judged("most", ("a",), (flow, ["a", "x"])), True)
        self.assertIs(self.judged("most", ("a",), (idle, ["a"])), False)
        self.assertIs(self.judged("most", ("a",), [flow, ["a"]]), False)
        self.assertIs(self.judged("most", ("a",), (flow, ["x"])), False)
        self.assertIs(self.judged("most", ("a",), (flow, ["x", "a"])), False)
        self.assertIs(self.judged("most", ("a",), (flow, ("a",))), False)
        self.assertIs(self.judged("most", ("a",), (flow, ["a"], None)), False)
        self.assertIs(self.judged("most", ("b",), (flow, ["b"])), False)
        self.assertIs(self.judged("most", ("b",), (idle, ["b"])), True)
        self.assertIs(self.judged("most", ("a",), ({"ax": True, "xb": 1}, ["a"])), False)

    def test_papers_of_ways(self):
        way = CHAIN.streets()
        key = ("a", "b")
        self.assertEqual(tables.entry_paper(CHAIN, "way", key), (way, {"a": 0, "b": 5, "x": 2}))
        self.assertIs(self.judged("way", key, (way, {"x": 2, "b": 5, "a": 0})), True)
        self.assertIs(self.judged("way", key, (way, {"a": 0, "b": 5, "x": 3})), False)
        self.assertIs(self.judged("way", key, (way, {"a": 0, "b": 4, "x": 2})), False)
        self.assertIs(self.judged("way", key, (way, {"a": 0, "b": 5})), False)
        self.assertIs(self.judged("way", key, (way, {"a": False, "b": 5, "x": 2})), False)
        self.assertIs(self.judged("way", key, (way, ["a"])), False)
        self.assertIs(self.judged("way", key, (way[:1], {"a": 0, "b": 5, "x": 2})), False)
        self.assertIs(self.judged("way", key, (tuple(way), {"a": 0, "b": 5, "x": 2})), False)
        self.assertIs(self.judged("way", key, (["ax", "xb"], {"a": 0, "b": 5, "x": 2})), False)
        self.assertIs(self.judged("way", key, ([], {"a": 0, "b": 0, "x": 0})), False)
        self.assertIs(self.judged("way", key, (None, ["a"])), False)
        self.assertIs(self.judged("way", ("b", "a"), (None, ["b"])), True)
        self.assertIs(self.judged("way", ("b", "a"), (None, ["b", "x"])), True)
        self.assertIs(self.judged("way", ("b", "a"), (None, ["a", "b"])), False)
        self.assertIs(self.judged("way", ("b", "a"), (None, ["x"])), False)
        self.assertIs(self.judged("way", ("b", "a"), (None, {"b": 0})), False)

    def test_true_is_no_width_of_a_way(self):
        one = Quarter([("main", "a", "b", 1, 0)], ["a", "b"])
        self.assertIs(self.judged("way", ("a", "b"), ([("main", "a", "b", 1, 0)], {"a": 0, "b": 0}), one), True)
        self.assertIs(self.judged("way", ("a", "b"), ([("main", "a", "b", True, 0)], {"a": 0, "b": 0}), one), False)
        self.assertIs(self.judged("widest", ("a", "b"), ([("main", "a", "b", 1, False)], ["a"]), one), False)

    def test_heights_stand_at_what_nothing_reaches_too(self):
        told = tables.entry_paper(LANE, "way", ("a", "b"))
        self.assertEqual(sorted(told[1]), ["a", "b", "c", "x", "y"])
        self.assertIs(tables.is_entry_paper(LANE, "way", ("a", "b"), told), True)
        self.assertIs(self.judged("way", ("a", "b"), (told[0], {"a": 0, "b": 1, "c": 0, "x": 1, "y": 0}), LANE), False)
        self.assertIs(self.judged("way", ("a", "b"), (told[0], {"a": 0, "b": 1, "c": 0, "x": 1, "y": 1}), LANE), True)
        self.assertIs(self.judged("way", ("a", "b"), (told[0], {"a": 0, "b": 1, "x": 1}), LANE), False)

    def test_a_longer_way_is_no_paper(self):
        two = Quarter([("fast", "a", "b", 1, 1), ("slow", "a", "b", 1, 3)], ["a", "b"])
        self.assertIs(self.judged("way", ("a", "b"), ([("slow", "a", "b", 1, 3)], {"a": 0, "b": 3}), two), False)
        self.assertIs(self.judged("way", ("a", "b"), ([("fast", "a", "b", 1, 1)], {"a": 0, "b": 1}), two), True)

    def test_ways_of_papers_go_from_gate_to_gate_street_by_street(self):
        streets = [("ab", "a", "b", 1, 5), ("ax", "a", "x", 1, 2), ("cd", "c", "d", 1, 5), ("off", "a", "b", 0, 5),
                   ("xd", "x", "d", 1, 9), ("yb", "y", "b", 1, 3), ("cb", "c", "b", 1, 5), ("ad", "a", "d", 1, 5)]
        quarter = Quarter(streets, ["a", "b", "c", "d"])
        by_name = {street[0]: street for street in streets}
        marks = {"a": 0, "b": 5, "c": 0, "d": 5, "x": 2, "y": 2}
        self.assertIs(self.judged("way", ("a", "b"), ([by_name["ab"]], marks), quarter), True)
        for names in (["cd"], ["cb"], ["ad"], ["off"], ["ax", "yb"], ["yb", "ax"]):
            way = [by_name[name] for name in names]
            self.assertIs(self.judged("way", ("a", "b"), (way, marks), quarter), False, names)
        for way in ([("new", "a", "b", 1, 5)], [("ab", "a", "b", 1, 5), None], ["ab"], [("ab", "a", "b", 2, 5)],
                    (by_name["ab"],), [list(by_name["ab"])], {"ab": by_name["ab"]}, [], None, 5, "ab"):
            self.assertIs(self.judged("way", ("a", "b"), (way, marks), quarter), False, way)
        for wrong in ({**marks, "z": 0}, {word: marks[word] for word in "abcdx"}, list(marks.items()), None,
                      {**{word: marks[word] for word in "abcdx"}, "z": 0}, {**marks, "y": None}, {**marks, "y": -1},
                      {**marks, "c": False}, list(marks), {**marks, "a": 1}, {**marks, "y": 1}):
            self.assertIs(self.judged("way", ("a", "b"), ([by_name["ab"]], wrong), quarter), False, wrong)

    def test_papers_of_widest_ways(self):
        both = Quarter([("thin", "a", "b", 1, 1), ("wide", "a", "b", 2, 1)], ["a", "b"])
        self.assertIs(self.judged("widest", ("a", "b"), ([("wide", "a", "b", 2, 1)], ["a"]), both), True)
        self.assertIs(self.judged("widest", ("a", "b"), ([("thin", "a", "b", 1, 1)], ["a"]), both), False)
        self.assertIs(self.judged("widest", ("a", "b"), (None, ["a"]), both), False)
        self.assertIs(self.judged("widest", ("b", "a"), (None, ["b"]), both), True)

    def test_papers_of_shut1(self):
        key = ("in",)
        flows = {"left": {"left": 0, "right": 1}, "right": {"left": 1, "right": 0}}
        self.assertIs(self.judged("shut1", key, ((["in"], "left"), flows), TWO), True)
        self.assertIs(self.judged("shut1", key, ((["in"], "right"), flows), TWO), True)
        for wrong in (
            ((["in"], None), flows), ((["in"], "none"), flows), ((["out"], "left"), flows),
            ([["in"], "left"], flows), ((["in"], "left"), {"left": flows["left"]}), ((["in"], "left"), {}),
            ((["in"], "left"), {**flows, "none": {}}), ((["in"], "left"), {**flows, "left": {"left": 0, "right": 0}}),
            ((["in"], "left"), {**flows, "left": flows["right"]}), ((["in"], "left"), {**flows, "left": None}),
            ((["in"], "left"), [flows]), (["in"], flows), None, (), ((["in"], "left"), {**flows, "left": {"right": 1}}),
        ):
            self.assertIs(self.judged("shut1", key, wrong, TWO), False, wrong)

    def test_papers_of_shut1_where_nothing_goes(self):
        none = {"left": 0, "right": 0}
        right = ((["out"], "left"), {"left": none, "right": none})
        self.assertIs(self.judged("shut1", ("out",), right, TWO), True)
        for wrong in (
            ((["out"], "none"), right[1]), ((["out"], None), right[1]), ((["out"], "left", None), right[1]),
            ((["out"],), right[1]), ([["out"], "left"], right[1]), ((["out"], ["left"]), right[1]),
            (right[0], {"left": none, "none": none}), (right[0], {"left": none}), (right[0], [none, none]),
            (right[0], {"left": none, "right": {"left": 1, "right": 0}}), (right[0], {**right[1], "none": none}),
        ):
            self.assertIs(self.judged("shut1", ("out",), wrong, TWO), False, wrong)

    def test_the_side_of_a_paper_of_shut1_is_one_that_is_worst(self):
        key = ("in",)
        flows = {name: {"left": 0, "right": 0} for name in ("left", "right")}
        # Flows of 0 hold no side of which 1 is left.
        self.assertIs(self.judged("shut1", key, ((["in"], "left"), flows), TWO), False)
        neck = Quarter([("p", "a", "x", 1, 1), ("q", "x", "b", 5, 1)], ["a", "b"])
        still = {name: {"p": 0, "q": 0} for name in ("p", "q")}
        self.assertIs(self.judged("shut1", ("a",), ((["a"], "p"), still), neck), True)
        self.assertIs(self.judged("shut1", ("a",), ((["a"], "q"), still), neck), False)
        self.assertIs(self.judged("shut1", ("a",), ((["a", "x"], "q"), still), neck), True)


if __name__ == "__main__":
    unittest.main()
