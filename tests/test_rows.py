"""[15]: mirrored quarters, idle streets and live rows."""

import random
import unittest

from gatequarters.errors import InvalidName
from gatequarters.quarters import Quarter, idle_names, is_live_row, live_row, mirrored, street_of, trimmed
from tests.support import LANE, lists_of, odd_objects, small_streets

RING = Quarter([("aa", "g", "x", 1, 5), ("bb", "x", "y", 2, 5), ("cc", "y", "g", 3, 5), ("dd", "y", "x", 1, 0),
                ("off", "x", "g", 0, 1)], ["g"])


def rows_by_search(quarter, name, most):
    """Return all rows of at most so many streets as [15] tells them, of any number of streets."""
    found = []
    for names in lists_of([street[0] for street in quarter.streets()], most):
        row = [street_of(quarter, word) for word in names]
        if name not in names or any(street[3] == 0 for street in row):
            continue
        if any(row[k][2] != row[k + 1][1] for k in range(len(row) - 1)):
            continue
        if row[0][1] in quarter.gates() and row[-1][2] in quarter.gates():
            found.append(row)
    return found


class Mirrored(unittest.TestCase):
    def test_all_streets_are_turned(self):
        self.assertEqual(mirrored(LANE), Quarter(
            [("ab", "b", "a", 2, 1), ("ax", "x", "a", 1, 1), ("yb", "b", "y", 3, 0), ("ba", "a", "b", 0, 1)],
            ["a", "b", "c"]))
        self.assertEqual(mirrored(mirrored(LANE)), LANE)
        self.assertEqual(mirrored(Quarter([], ["a"])), Quarter([], ["a"]))


class Idle(unittest.TestCase):
    def test_shut_and_dead_streets_are_idle(self):
        self.assertEqual(idle_names(LANE), ["ax", "ba", "yb"])
        self.assertEqual(trimmed(LANE), Quarter([("ab", "a", "b", 2, 1)], ["a", "b", "c"]))

    def test_from_a_gate_to_the_same_gate_is_live(self):
        self.assertEqual(idle_names(RING), ["off"])
        self.assertEqual(trimmed(RING).streets(), [street for street in RING.streets() if street[0] != "off"])

    def test_shut_streets_lead_nowhere(self):
        quarter = Quarter([("a", "g", "x", 0, 1), ("b", "x", "h", 1, 1), ("c", "h", "y", 1, 1), ("d", "y", "g", 0, 1)],
                          ["g", "h"])
        self.assertEqual(idle_names(quarter), ["a", "b", "c", "d"])
        self.assertEqual(trimmed(quarter), Quarter([], ["g", "h"]))

    def test_a_ring_away_from_the_gates_is_idle(self):
        quarter = Quarter([("a", "x", "y", 1, 1), ("b", "y", "x", 1, 1), ("in", "g", "x", 1, 1)], ["g"])
        self.assertEqual(idle_names(quarter), ["a", "b", "in"])

    def test_streets_between_gates_are_live(self):
        quarter = Quarter([("a", "g", "h", 1, 1), ("b", "h", "i", 1, 1)], ["g", "h", "i"])
        self.assertEqual(idle_names(quarter), [])
        self.assertEqual(trimmed(quarter), quarter)


class Live(unittest.TestCase):
    def names(self, quarter, name):
        return [street[0] for street in live_row(quarter, name)]

    def test_a_row_through_the_street(self):
        self.assertEqual(self.names(RING, "aa"), ["aa", "bb", "cc"])
        self.assertEqual(self.names(RING, "dd"), ["aa", "bb", "dd", "bb", "cc"])
        self.assertEqual(live_row(LANE, "ab"), [("ab", "a", "b", 2, 1)])

    def test_none_for_an_idle_street(self):
        for name in ["ax", "ba", "yb"]:
            self.assertIsNone(live_row(LANE, name))
            self.assertIs(is_live_row(LANE, name, None), False)
            self.assertIs(is_live_row(LANE, name, [street_of(LANE, name)]), False)

    def test_as_few_streets_as_can_be_whatever_their_lengths(self):
        quarter = Quarter([("a", "g", "x", 1, 9), ("b", "g", "y", 1, 0), ("c", "y", "x", 1, 0), ("d", "x", "h", 1, 1)],
                          ["g", "h"])
        self.assertEqual(self.names(quarter, "d"), ["a", "d"])
        self.assertIs(is_live_row(quarter, "d", [street_of(quarter, name) for name in ["b", "c", "d"]]), False)
        self.assertEqual(self.names(quarter, "c"), ["b", "c", "d"])

    def test_any_gates_do(self):
        quarter = Quarter([("a", "g", "x", 1, 1), ("b", "h", "x", 1, 1), ("c", "x", "i", 1, 1), ("d", "x", "g", 1, 1)],
                          ["g", "h", "i"])
        rows = [["a", "c"], ["a", "d"], ["b", "c"], ["b", "d"]]
        for row in rows:
            value = [street_of(quarter, name) for name in row]
            self.assertIs(is_live_row(quarter, row[0], value), True)
            self.assertIs(is_live_row(quarter, row[1], value), True)
        self.assertIs(is_live_row(quarter, "b", [street_of(quarter, name) for name in ["a", "c"]]), False)

    def test_streets_stand_there_as_they_are(self):
        quarter = Quarter([("a", "g", "h", 1, 0)], ["g", "h"])
        self.assertIs(is_live_row(quarter, "a", [("a", "g", "h", 1, 0)]), True)
        wrong = [[("a", "g", "h", True, 0)], [("a", "g", "h", 1, False)], [["a", "g", "h", 1, 0]], ["a"],
                 (("a", "g", "h", 1, 0),), [("a", "g", "h", 2, 0)], {0: ("a", "g", "h", 1, 0)}, [], None]
        for value in wrong + odd_objects():
            self.assertIs(is_live_row(quarter, "a", value), False, value)

    def test_names_that_no_street_bears(self):
        for name in ["zz", "a", None, ["ab"], True]:
            for call in [lambda: live_row(LANE, name), lambda: is_live_row(LANE, name, [])]:
                with self.assertRaises(InvalidName) as caught:
                    call()
                self.assertIs(caught.exception.value, name)

    def test_by_trying_all_rows(self):
        chance = random.Random(15)
        for _ in range(60):
            streets = small_streets(chance, ["a", "b", "x", "y"], chance.randint(1, 4), [0, 1, 1], [0, 3])
            quarter = Quarter(streets, chance.choice([["a"], ["a", "b"], ["z", "a"]]))
            idle = []
            for name in [street[0] for street in quarter.streets()]:
                rows = rows_by_search(quarter, name, 5)
                if not rows:
                    idle.append(name)
                    self.assertIsNone(live_row(quarter, name))
                    continue
                least = min(len(row) for row in rows)
                self.assertIn(live_row(quarter, name), [row for row in rows if len(row) == least])
                for names in lists_of([street[0] for street in quarter.streets()], 5):
                    row = [street_of(quarter, word) for word in names]
                    self.assertIs(is_live_row(quarter, name, row), row in rows and len(row) == least)
            self.assertEqual(idle_names(quarter), sorted(idle))
            self.assertEqual(trimmed(quarter).streets(), [row for row in quarter.streets() if row[0] not in idle])
            self.assertEqual(trimmed(quarter).gates(), quarter.gates())


if __name__ == "__main__":
    unittest.main()
