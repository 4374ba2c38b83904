"""[67] to [72]: the edges that the document names, and what is no plan, table, dealing or place."""

import random
import time
import unittest

from gatequarters import gluing
from gatequarters.errors import InvalidCount, InvalidDealing, InvalidLot, InvalidMeasure, InvalidPlace, InvalidPlan
from gatequarters.errors import InvalidQuarter, InvalidQuarters, InvalidTable, Unlike
from gatequarters.quarters import Quarter, Town
from gatequarters.tables import table_of
from tests.glue import arcs_of
from tests.support import HOME, MEASURES, ONE, TWO, named_streets

CHAIN = ([{"in": "a", "out": "m"}, {"in": "m", "out": "b"}], ["a", "b"])
ALONE = Quarter([("off", "x", "a", 2, 1), ("on", "a", "x", 3, 1)], ["a"])
NONE = Quarter([], ["in", "out"])
MOSTS = [{"most": {("in",): 2, ("out",): 0}}] * 2


class Plans(unittest.TestCase):
    def refused(self, plan, quarters=(ONE, TWO)):
        with self.assertRaises(InvalidPlan) as caught:
            gluing.glued(list(quarters), plan)
        self.assertIs(caught.exception.value, plan)
        tables = [{"most": table_of(quarter, "most")} for quarter in quarters]
        with self.assertRaises(InvalidPlan) as caught:
            gluing.glued_table("most", tables, plan)
        self.assertIs(caught.exception.value, plan)

    def test_what_is_no_plan(self):
        joints, gates = CHAIN
        for plan in (
            [joints, gates], (joints,), (joints, gates, []), (tuple(joints), gates), (joints, tuple(gates)),
            (joints[:1], gates), (joints + joints[:1], gates), (joints, []), (joints, ["a", "a"]), (joints, ["A"]),
            (joints, [1]), (joints, [["a"]]), (joints, "ab"), ({0: joints[0], 1: joints[1]}, gates), None,
            ([joints[0], {"in": "m"}], gates), ([joints[0], {"in": "m", "out": "m"}], gates),
            ([joints[0], {"in": "m", "out": "B"}], gates), ([joints[0], {"in": "m", "out": 1}], gates),
            ([joints[0], {"in": "m", "out": ["b"]}], gates), ([joints[0], {"in": "m", "end": "b"}], gates),
            ([joints[0], {"in": "m", "out": "b", "end": "c"}], gates), ([joints[0], ["m", "b"]], gates),
            ([joints[0], (("in", "m"), ("out", "b"))], gates), ([joints[0], None], gates),
        ):
            self.refused(plan)

    def test_a_joint_of_one_gate_that_no_table_tells(self):
        for joint in ({"a": "k"}, {"zzz": "k"}):
            self.assertEqual(gluing.glued_table("most", [{"most": {}}], ([joint], ["k", "l"])),
                             {("k",): 0, ("l",): 0})
        for joint in ({}, {"A": "k"}, {1: "k"}, {None: "k"}, {"a": "k", "b": "l"}, {"a": "K"}, {("a",): "k"}):
            with self.assertRaises(InvalidPlan):
                gluing.glued_table("most", [{"most": {}}], ([joint], ["k", "l"]))
        # A quarter tells its one gate.
        self.assertEqual(gluing.glued([ALONE], ([{"a": "k"}], ["k"])).gates(), ["k"])
        self.refused_alone({"b": "k"})

    def refused_alone(self, joint):
        with self.assertRaises(InvalidPlan):
            gluing.glued([ALONE], ([joint], ["k"]))

    def test_what_are_no_quarters(self):
        for value in ([], (ONE,), [ONE, None], [[ONE]], None, ONE, {0: ONE}, [HOME], {}):
            with self.assertRaises(InvalidQuarters) as caught:
                gluing.glued(value, True)
            self.assertIs(caught.exception.value, value)


class Glued(unittest.TestCase):
    def test_a_gate_that_is_no_square(self):
        whole = gluing.glued([ONE], ([{"in": "k", "out": "l"}], ["far"]))
        self.assertEqual((whole.gates(), [arc[2:] for arc in arcs_of(whole)]), (["far"], [(2, 1)]))
        self.assertNotIn("far", [word for arc in arcs_of(whole) for word in arc[:2]])
        self.assertEqual(gluing.glued_table("way", [{"way": table_of(ONE, "way")}], ([{"in": "a", "out": "b"}], ["a", "z"])),
                         {("a", "z"): None, ("z", "a"): None})

    def test_plans_of_one_square(self):
        plan = ([{"a": "k"}, {"a": "k"}], ["k"])
        whole = gluing.glued([ALONE, ALONE], plan)
        self.assertEqual((whole.gates(), len(whole.streets())), (["k"], 4))
        self.assertEqual(len({word for arc in arcs_of(whole) for word in arc[:2]}), 3)
        for measure in MEASURES:
            self.assertEqual(gluing.glued_table(measure, [{word: {} for word in MEASURES}] * 2, plan), {})
            self.assertIs(gluing.alike_inside([ALONE, ALONE], plan, 1, Quarter([], ["a"]), measure), True)

    def test_gates_of_several_quarters_at_one_square(self):
        plan = ([{"in": "a", "out": "b"}] * 3, ["a", "b"])
        whole = gluing.glued([ONE, TWO, NONE], plan)
        self.assertEqual(sorted(arcs_of(whole)), [("a", "b", 1, 1), ("a", "b", 1, 1), ("a", "b", 2, 1)])
        tables = [{measure: table_of(quarter, measure) for measure in MEASURES} for quarter in (ONE, TWO, NONE)]
        told = {measure: gluing.glued_table(measure, tables, plan) for measure in MEASURES}
        self.assertEqual([told[measure][("a",)] for measure in ("most", "shut1", "shut2")], [4, 2, 1])
        self.assertEqual(told["widest"], {("a", "b"): 2, ("b", "a"): 0})

    def test_words_of_inner_crossings_meet_no_square_and_no_gate(self):
        inner = Quarter([("s", "in", "a", 1, 1), ("t", "a", "b", 1, 1), ("u", "b", "out", 1, 1)], ["in", "out"])
        whole = gluing.glued([inner, inner], ([{"in": "a", "out": "b"}, {"in": "b", "out": "c"}], ["a", "c", "d"]))
        self.assertEqual(len({word for arc in arcs_of(whole) for word in arc[:2]}), 7)
        self.assertEqual(table_of(whole, "way")[("a", "c")], 6)
        self.assertEqual(table_of(whole, "way")[("a", "d")], None)

    def test_no_streets_and_shut_streets(self):
        shut = Quarter([("main", "in", "out", 0, 3)], ["in", "out"])
        self.assertEqual(gluing.glued([NONE, NONE], CHAIN), Quarter([], ["a", "b"]))
        whole = gluing.glued([shut, NONE], CHAIN)
        self.assertEqual([arc[2:] for arc in arcs_of(whole)], [(0, 3)])
        for measure in MEASURES:
            self.assertIs(gluing.alike_inside([shut, NONE], CHAIN, 0, NONE, measure), True)

    def test_at_the_limits(self):
        chance = random.Random(5)
        began = time.monotonic()
        for _ in range(10):
            parts = [Quarter(named_streets(chance, ["a", "b", "c", "d", "x"], many, 20000), ["a", "b", "c", "d"])
                     for many in (5, 5, 4)]
            joints = [dict(zip("abcd", chance.sample("klmno", 4))) for _ in parts]
            plan = (joints, ["k", "l", "m", "n"])
            tables = [{measure: table_of(part, measure) for measure in MEASURES} for part in parts]
            whole = gluing.glued(parts, plan)
            for measure in MEASURES:
                self.assertEqual(gluing.glued_table(measure, tables, plan), table_of(whole, measure))
                self.assertIs(gluing.alike_inside(parts, plan, 2, parts[2], measure), True)
            for measure in ("most", "way", "widest"):
                for key in tables[0][measure]:
                    gluing.entry_room(measure, tables, plan, 0, key)
            town = Town(named_streets(chance, ["k", "l", "m", "s", "t", "u"], 10, 1000))
            self.assertEqual(len(gluing.with_town(whole, town, ["k", "l", "m", "n"]).streets()), 24)
        self.assertLess(time.monotonic() - began, 30)

    def test_squares_without_number_do_no_harm(self):
        # Fifteen squares of three parts, none of them in common.
        words = ["pa", "pb", "pc", "pd", "pe", "qa", "qb", "qc", "qd", "qe", "ra", "rb", "rc", "rd", "re"]
        gates = ["a", "b", "c", "d", "e"]
        part = Quarter([("s", "a", "b", 2, 1), ("t", "c", "d", 1, 1)], gates)
        joints = [dict(zip(gates, words[k:k + 5])) for k in (0, 5, 10)]
        tables = [{measure: table_of(part, measure) for measure in MEASURES}] * 3
        self.assertEqual(gluing.glued_table("shut2", tables, (joints, ["pa", "pb", "qc"])),
                         {lot: 0 for lot in [("pa",), ("pa", "pb"), ("pa", "qc"), ("pb",), ("pb", "qc"), ("qc",)]})
        self.assertEqual(gluing.glued_table("most", tables, (joints, ["pa", "pb"])), {("pa",): 2, ("pb",): 0})


class Tables(unittest.TestCase):
    def test_what_are_no_tables(self):
        most = MOSTS[0]["most"]
        for tables in (
            [], (MOSTS[0],), [{}], [{"way": {("in", "out"): 1, ("out", "in"): None}}], [{"most": {("in",): 2}}],
            [{"most": {("in",): 2, ("out",): True}}], [{"most": {("in",): 2, ("out",): -1}}],
            [{"most": {("in",): 2, ("out",): None}}], [{"most": {("in",): 2, ("Out",): 0}}],
            [{"most": {"in": 2, "out": 0}}], [{"most": {("in",): 2, ("out",): 0, ("in", "out"): 0}}],
            [{"most": {(): 0}}], [{"most": {("in",): 0}}], [{"most": [most]}], [most], [None], None, {0: MOSTS[0]},
            [{"most": most, "far": most}], [{"most": most, None: most}], [{"most": most, "way": {}}],
            [{"most": {}, "way": {("in", "out"): 1, ("out", "in"): 2}}],
            [{"most": most, "shut1": {("in",): 2, ("end",): 0}}], [{"most": most, "widest": {("in", "out"): 1}}],
            [{"most": most, "widest": {("in", "out"): 1, ("out", "in"): None}}], [{"most": {("in", 1): 2}}],
            [{"most": {("in", ("out",)): 2}}], [{"most": {None: 2}}],
        ):
            with self.assertRaises(InvalidTable) as caught:
                gluing.glued_table("most", tables, True)
            self.assertIs(caught.exception.value, tables)
            with self.assertRaises(InvalidTable) as caught:
                gluing.entry_room("most", tables, True, True, True)
            self.assertIs(caught.exception.value, tables)

    def test_tables_that_are_wanted_beside(self):
        shut = {("in",): 1, ("out",): 0}
        plan = ([{"in": "a", "out": "b"}], ["b", "a"])
        for measure, parts in (("shut1", ["shut1"]), ("shut2", ["shut2", "most"]), ("shut2", ["shut1", "shut2"])):
            with self.assertRaises(InvalidTable):
                gluing.glued_table(measure, [{word: shut for word in parts}], plan)
        self.assertEqual(gluing.glued_table("shut1", [{"most": shut, "shut1": shut}], plan), {("a",): 1, ("b",): 0})

    def test_entry_room_takes_three_measures(self):
        for measure in ("shut1", "shut2", "far", None, True, ["most"]):
            with self.assertRaises(InvalidMeasure) as caught:
                gluing.entry_room(measure, True, True, True, True)
            self.assertIs(caught.exception.value, measure)

    def test_keys_and_positions(self):
        for at in (2, -1, True, False, "0", None, 10 ** 29):
            with self.assertRaises(InvalidCount) as caught:
                gluing.entry_room("most", MOSTS, CHAIN, at, True)
            self.assertIs(caught.exception.value, at)
            with self.assertRaises(InvalidCount):
                gluing.alike_inside([ONE, TWO], CHAIN, at, True, True)
        for key in ("in", ["in"], ("in", "out"), (), ("end",), None, [], {}):
            with self.assertRaises(InvalidLot) as caught:
                gluing.entry_room("most", MOSTS, CHAIN, 0, key)
            self.assertIs(caught.exception.value, key)
        with self.assertRaises(InvalidLot):
            gluing.entry_room("most", [{"most": {}}], ([{"a": "k"}], ["k"]), 0, ("a",))

    def test_rooms_at_the_edges(self):
        plan = ([{"in": "a", "out": "b"}], ["a", "b"])
        ways = [{"way": {("in", "out"): None, ("out", "in"): 0}}]
        self.assertEqual(gluing.entry_room("way", ways, plan, 0, ("in", "out")), (None, None))
        self.assertEqual(gluing.entry_room("way", ways, plan, 0, ("out", "in")), (0, 0))
        self.assertEqual(gluing.entry_room("way", ways, (plan[0], ["a"]), 0, ("in", "out")), (0, None))
        both = [{"widest": {("in", "out"): 2, ("out", "in"): 0}}, {"widest": {("in", "out"): 5, ("out", "in"): 0}}]
        twice = (plan[0] * 2, ["a", "b"])
        self.assertEqual(gluing.entry_room("widest", both, twice, 0, ("in", "out")), (0, 5))
        self.assertEqual(gluing.entry_room("widest", both, twice, 1, ("in", "out")), (5, 5))
        self.assertEqual(gluing.entry_room("widest", both, CHAIN, 1, ("in", "out")), (2, None))
        self.assertEqual(gluing.entry_room("widest", both, CHAIN, 0, ("in", "out")), (2, 2))

    def test_newer_quarters(self):
        with self.assertRaises(InvalidQuarter):
            gluing.alike_inside([ONE, TWO], CHAIN, 0, HOME, True)
        other = Quarter([], ["in"])
        with self.assertRaises(Unlike) as caught:
            gluing.alike_inside([ONE, TWO], CHAIN, 0, other, True)
        self.assertIs(caught.exception.value, other)
        with self.assertRaises(InvalidMeasure):
            gluing.alike_inside([ONE, TWO], CHAIN, 0, TWO, "far")


class Pieces(unittest.TestCase):
    def test_what_is_no_dealing(self):
        for dealing in (
            [], [[]], [["left"]], [["left"], ["left", "right"]], [["left", "right"], []], [["left", "right", "main"]],
            [("left", "right")], (["left", "right"],), ["left", "right"], [["left"], "right"], None, {}, [[1, 2]],
            [[["left"], ["right"]]], {"left": ["right"]}, [["left", "left"]],
        ):
            with self.assertRaises(InvalidDealing) as caught:
                gluing.pieces_of(TWO, dealing)
            self.assertIs(caught.exception.value, dealing)
        # A quarter without streets cannot be dealt out.
        for dealing in ([], [[]]):
            with self.assertRaises(InvalidDealing):
                gluing.pieces_of(NONE, dealing)

    def test_a_piece_that_meets_nothing(self):
        quarter = Quarter([("p", "y", "x", 1, 1), ("q", "x", "y", 1, 1)], ["a"])
        pieces, plan = gluing.pieces_of(quarter, [["q", "p"]])
        self.assertEqual((pieces[0].gates(), plan), (["x"], ([{"x": "x"}], ["a"])))
        pieces, plan = gluing.pieces_of(quarter, [["q"], ["p"]])
        self.assertEqual([piece.gates() for piece in pieces], [["x", "y"], ["x", "y"]])


class Net(unittest.TestCase):
    def test_what_are_no_places(self):
        many = Town([(name, name, "in", 1, 1) for name in "abcdefg"])
        six = ["a", "b", "c", "d", "e", "f"]
        for places in ([], ["home", "home"], ["home", "nowhere"], ("home",), "home", None, [["home"]], {}, [None]):
            with self.assertRaises(InvalidPlace) as caught:
                gluing.with_town(ONE, HOME, places)
            self.assertIs(caught.exception.value, places)
        with self.assertRaises(InvalidPlace):
            gluing.with_town(ONE, many, six)
        self.assertEqual(gluing.with_town(ONE, many, six[1:]).gates(), six[1:])

    def test_inner_crossings_and_places_of_one_word_are_two(self):
        inner = Quarter([("s", "in", "x", 1, 1), ("t", "x", "out", 1, 1)], ["in", "out"])
        town = Town([("s", "x", "in", 1, 1)])
        whole = gluing.with_town(inner, town, ["x", "out"])
        self.assertEqual((whole.gates(), len(whole.streets())), (["out", "x"], 3))
        self.assertEqual(table_of(whole, "way"), {("out", "x"): None, ("x", "out"): 3})
        self.assertEqual(gluing.with_town(NONE, Town([]), ["in"]), Quarter([], ["in"]))


if __name__ == "__main__":
    unittest.main()
