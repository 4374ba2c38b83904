"""[73] to [79]: the edges that the document names, and what is no parting, table or pair."""

import random
import time
import unittest

from gatequarters import least
from gatequarters.errors import InvalidGates, InvalidLot, InvalidParting, InvalidTable, Refused
from gatequarters.quarters import Quarter
from gatequarters.tables import lots_of, table_of
from tests.calls import PARTS, STAR, TRIPOD
from tests.support import named_streets

CHAIN = Quarter([("ax", "a", "x", 1, 0), ("xb", "x", "b", 2, 0)], ["a", "b"])
ALONE = Quarter([("off", "x", "a", 2, 1), ("on", "a", "y", 3, 1)], ["a"])
NONE = Quarter([], ["a", "b"])
THREE = ["a", "b", "c"]
WILD = {**STAR, ("a", "b"): 3}


class Partings(unittest.TestCase):
    def test_what_is_no_parting(self):
        for parting in (
            [], [["a", "x"]], [["a"], ["b"]], [["a", "b"], ["x"]], [["b", "x"], ["a"]], [["a"], ["x", "b"]],
            [["a"], ["b", "x"], []], [[], ["a"], ["b", "x"]], [["a"], ["b"], ["b", "x"]], [["a"], ["b", "x", "x"]],
            (["a"], ["b", "x"]), [("a",), ("b", "x")], [["a"], ["b", "x"], ["y"]], ["a", "bx"], None, {}, [None],
            [["a"], ["b", "x"], ["x"]], [[["a"]], ["b", "x"]], [["a"], ["b", 1]], [["a"], {"b": 0, "x": 1}],
        ):
            with self.assertRaises(InvalidParting) as caught:
                least.merged(CHAIN, parting)
            self.assertIs(caught.exception.value, parting)
            self.assertIs(least.is_least_parting(CHAIN, parting), False)

    def test_words_and_names_of_merged_quarters(self):
        quarter = Quarter([("p", "y", "x", 1, 2), ("q", "x", "a", 0, 4), ("r", "b", "y", 5, 6)], ["a", "b"])
        self.assertEqual(least.merged(quarter, [["a"], ["b"], ["x", "y"]]).streets(),
                         [("q", "x", "a", 0, 4), ("r", "b", "x", 5, 6)])
        self.assertEqual(least.merged(quarter, [["a", "x", "y"], ["b"]]), Quarter([("r", "b", "a", 5, 6)], ["a", "b"]))
        # A gate that is not the first crossing of its class gives it its word.
        late = Quarter([("p", "a", "z", 1, 1), ("q", "z", "y", 1, 1)], ["y", "z"])
        self.assertEqual(least.merged(late, [["a", "z"], ["y"]]), Quarter([("q", "z", "y", 1, 1)], ["y", "z"]))
        self.assertEqual(least.merged(quarter, [["a"], ["b"], ["x"], ["y"]]), quarter)

    def test_one_gate_alone_and_no_streets(self):
        self.assertEqual(least.least_parting(ALONE), [["a", "x", "y"]])
        self.assertEqual(least.side_parting(ALONE), [["a", "x", "y"]])
        self.assertEqual(least.least_parting(NONE), [["a"], ["b"]])
        self.assertEqual(least.side_parting(NONE), [["a"], ["b"]])
        self.assertIs(least.is_least_parting(ALONE, [["a"], ["x", "y"]]), False)
        self.assertEqual(least.merged(ALONE, [["a", "x", "y"]]), Quarter([], ["a"]))
        self.assertEqual(least.side_parting(CHAIN), [["a"], ["b"], ["x"]])

    def test_shut_streets(self):
        quarter = Quarter([("ax", "a", "x", 0, 0), ("xb", "x", "b", 0, 0)], ["a", "b"])
        self.assertEqual(len(least.least_parting(quarter)), 2)
        self.assertIs(least.is_least_parting(quarter, [["a", "x"], ["b"]]), True)
        self.assertIs(least.is_least_parting(quarter, [["a"], ["b", "x"]]), True)

    def test_at_the_limits(self):
        chance = random.Random(7)
        began = time.monotonic()
        for many in (1, 2, 2, 2, 3, 3, 4, 5):
            for _ in range(5):
                quarter = Quarter(named_streets(chance, list("abcdefg"), 14, 20000), list("abcdefg")[:many])
                parting = least.least_parting(quarter)
                self.assertIs(least.is_least_parting(quarter, parting), True)
                self.assertEqual(table_of(least.merged(quarter, parting), "most"), table_of(quarter, "most"))
                self.assertGreaterEqual(len(least.side_parting(quarter)), len(parting))
        self.assertLess(time.monotonic() - began, 30)


class Tables(unittest.TestCase):
    def test_what_is_no_table(self):
        for table in (None, [], {}, {("a",): 1}, {**STAR, ("a",): True}, {**STAR, ("a",): -1}, {**STAR, ("a",): None},
                      {**STAR, ("z",): 1}, list(STAR.items()), {**STAR, ("a", "b", "c"): 0}, (STAR,)):
            for function in (least.barring_rows, least.can_be, least.crossings_wanted, least.made_quarter, least.parts_of):
                with self.assertRaises(InvalidTable) as caught:
                    function(THREE, table)
                self.assertIs(caught.exception.value, table)
            for function in (least.is_made_quarter, least.are_parts):
                with self.assertRaises(InvalidTable):
                    function(THREE, table, None)

    def test_how_many_gates(self):
        four = {lot: 0 for lot in lots_of(Quarter([], ["a", "b", "c", "d"]))}
        self.assertEqual(least.barring_rows(["d", "a", "b", "c"], four), [])
        for function in (least.can_be, least.crossings_wanted, least.made_quarter):
            for gates in (["a", "b", "c", "d"], [], ["a", "a"], ("a",), None, ["A"], "abc"):
                with self.assertRaises(InvalidGates) as caught:
                    function(gates, True)
                self.assertIs(caught.exception.value, gates)
        for gates in (["a", "b"], ["a"], ["a", "b", "c", "d"], ["a", "b", "b"]):
            with self.assertRaises(InvalidGates):
                least.parts_of(gates, True)
            with self.assertRaises(InvalidGates):
                least.are_parts(gates, True, None)
        for gates in (["a"], [], ["a", "a"], None):
            with self.assertRaises(InvalidGates):
                least.lone_pair(gates, True)
        for lot in ((), ("a", "b", "c"), ("b", "a"), ("z",), ["a"], "a", None, ("a", "a")):
            with self.assertRaises(InvalidLot) as caught:
                least.lone_pair(THREE, lot)
            self.assertIs(caught.exception.value, lot)

    def test_one_and_two_gates(self):
        self.assertIs(least.can_be(["a"], {}), True)
        self.assertEqual(least.crossings_wanted(["a"], {}), 0)
        self.assertEqual(least.made_quarter(["a"], {}).gates(), ["a"])
        self.assertIs(least.is_made_quarter(["a"], {}, Quarter([], ["a"])), True)
        self.assertIs(least.is_made_quarter(["a"], {}, ALONE), False)
        self.assertIs(least.is_made_quarter(["a"], {}, Quarter([], ["b"])), False)
        table = {("a",): 300000, ("b",): 7}
        made = least.made_quarter(["b", "a"], table)
        self.assertEqual((table_of(made, "most"), least.crossings_wanted(["b", "a"], table)), (table, 0))
        self.assertEqual(least.barring_rows(["a", "b"], table), [])

    def test_great_entries(self):
        for scale in (100000, 10 ** 29):
            table = {lot: scale * STAR[lot] for lot in STAR}
            self.assertEqual(table_of(least.made_quarter(THREE, table), "most"), table)
            mirror = {lot: table[tuple(gate for gate in THREE if gate not in lot)] for lot in table}
            self.assertEqual(table_of(least.made_quarter(THREE, mirror), "most"), mirror)
            self.assertEqual(least.parts_of(THREE, mirror)[1][0], "in")

    def test_what_is_no_made_quarter(self):
        self.assertIs(least.is_made_quarter(THREE, STAR, TRIPOD), True)
        more = Quarter(TRIPOD.streets() + [("more", "x", "y", 1, 1)], THREE)
        other = Quarter([street for street in TRIPOD.streets() if street[0] != "ax"], THREE)
        gates = Quarter(TRIPOD.streets(), ["a", "b"])
        for value in (more, other, gates, None, TRIPOD.streets(), [TRIPOD], Quarter([], THREE)):
            self.assertIs(least.is_made_quarter(THREE, STAR, value), False)
            self.assertIs(least.is_least_alike(TRIPOD, value), False)
        self.assertIs(least.is_least_alike(more, TRIPOD), True)

    def test_more_than_three_gates_are_refused(self):
        quarter = Quarter([], ["a", "b", "c", "d"])
        for function, rest in ((least.least_alike, []), (least.is_least_alike, [quarter])):
            with self.assertRaises(Refused) as caught:
                function(quarter, *rest)
            self.assertIs(caught.exception.value, quarter)

    def test_no_quarter_has_a_wild_table(self):
        self.assertIsNone(least.made_quarter(THREE, WILD))
        for function, rest in ((least.parts_of, []), (least.are_parts, [PARTS])):
            with self.assertRaises(InvalidTable) as caught:
                function(THREE, WILD, *rest)
            self.assertIs(caught.exception.value, WILD)

    def test_what_are_no_parts(self):
        streets, star = PARTS
        none = {gate: 0 for gate in THREE}
        for value in (
            None, [streets, star], (streets,), (streets, star, None), (star, streets), (list(streets), star),
            ({**streets, ("a", "b"): True}, star), ({**streets, ("a", "b"): -1}, star), ({**streets, ("a", "a"): 0}, star),
            ({pair: streets[pair] for pair in list(streets)[1:]}, star), (streets, None), (streets, list(star)),
            (streets, ("in", star[1])), (streets, ("off", star[1])), (streets, ("out",)), (streets, ("out", none)),
            (streets, ("out", {**star[1], "a": True})), (streets, ("out", {**star[1], "d": 0})), (streets, ()),
            ({**{pair: streets[pair] for pair in list(streets)[1:]}, ("a", "d"): 0}, star),
            (streets, ("out", {"a": 1, "b": 1, "d": 1})), (streets, ("out", {"a": 1, "b": 1})), (streets, ("out", [1, 1, 1])), (streets, (True, star[1])),
        ):
            self.assertIs(least.are_parts(THREE, STAR, value), False, value)
        self.assertIs(least.are_parts(THREE, STAR, PARTS), True)
        mirror = {lot: STAR[tuple(gate for gate in THREE if gate not in lot)] for lot in STAR}
        for word, right in (("in", True), ("out", False), ("off", False), (None, False), ("", False)):
            self.assertIs(least.are_parts(THREE, mirror, (streets, (word, star[1]))), right)
        # A star of nothing is none.
        plain = {lot: 0 for lot in STAR}
        self.assertIs(least.are_parts(THREE, plain, (streets, ("out", none))), False)
        self.assertIs(least.are_parts(THREE, plain, (streets, None)), True)

    def test_what_is_no_lone_pair(self):
        one, other = NONE, Quarter([("s", "a", "b", 1, 0)], ["a", "b"])
        for value in ([one, other], (one,), (one, other, one), (one, one), (one, None), None, (one, TRIPOD),
                      (Quarter([], THREE), Quarter([("s", "a", "b", 1, 0)], THREE)), {0: one, 1: other}):
            self.assertIs(least.is_lone_pair(["a", "b"], ("a",), value), False)
        self.assertIs(least.is_lone_pair(["a", "b"], ("a",), (other, one)), True)
        self.assertIs(least.is_lone_pair(["a", "c"], ("a",), (other, one)), False)
        self.assertIs(least.is_lone_pair(["a", "b"], ("a",), (one, Quarter(other.streets(), ["a", "c"]))), False)


if __name__ == "__main__":
    unittest.main()
