"""[13] and [14]: changes, and the fewest of them."""

import itertools
import random
import unittest

from gatequarters.errors import InvalidChange, InvalidChanges
from gatequarters.quarters import Quarter, are_changes, changed, changed_by, told_changes
from tests.support import ONE, TWO, odd_objects, plain, small_streets

STREET = ("main", "in", "out", 2, 1)
GATES = ["in", "out"]
NEW = ("new", "out", "mid", 0, 3)


def quarter_of(*streets):
    return Quarter(list(streets), GATES)


class Changed(unittest.TestCase):
    def refused(self, error, value, function, *arguments):
        with self.assertRaises(error) as caught:
            function(*arguments)
        self.assertIs(caught.exception.value, value)

    def test_each_kind_of_change(self):
        self.assertEqual(changed(ONE, ("put", NEW)), quarter_of(STREET, NEW))
        self.assertEqual(changed(ONE, ("out", "main")), quarter_of())
        self.assertEqual(changed(ONE, ("width", "main", 0)), quarter_of(("main", "in", "out", 0, 1)))
        self.assertEqual(changed(ONE, ("length", "main", 20000)), quarter_of(("main", "in", "out", 2, 20000)))
        self.assertEqual(changed(ONE, ("turn", "main")), quarter_of(("main", "out", "in", 2, 1)))

    def test_other_streets_and_gates_stay(self):
        both = quarter_of(STREET, NEW)
        self.assertEqual(changed(both, ("width", "new", 5)), quarter_of(STREET, ("new", "out", "mid", 5, 3)))
        self.assertEqual(changed(both, ("turn", "new")), quarter_of(STREET, ("new", "mid", "out", 0, 3)))
        self.assertEqual(changed(both, ("out", "main")), quarter_of(NEW))
        self.assertEqual(changed(both, ("out", "main")).gates(), GATES)

    def test_a_change_that_does_not_fit_is_refused(self):
        unfit = [("put", STREET), ("put", ("main", "a", "b", 9, 9)), ("out", "other"), ("turn", "other"),
                 ("width", "other", 3), ("length", "other", 3), ("width", "main", 2), ("length", "main", 1)]
        for change in unfit:
            self.refused(InvalidChange, change, changed, ONE, change)

    def test_what_is_no_change_by_its_form_is_refused(self):
        wrong = [("put",), ("put", "main"), ("put", list(NEW)), ("put", ("new", "a", "b", True, 1)), ("put", NEW, 1),
                 ("out",), ("out", "Main"), ("out", "main", 1), ("out", ["main"]), ["out", "main"], ("turn",),
                 ("turn", "main", 1), ("width", "main"), ("width", "main", -1), ("width", "main", True),
                 ("width", "main", "3"), ("width", "main", 3, 4), ("width", 3, "main"), ("length", "main", False),
                 ("length", "main"), ("lengthen", "main", 3), ("Turn", "main"), (), ("main",), {"out": "main"}, "out",
                 (("out",), "main"), (["width"], "main", 3), ("width", "Main", 3), ("length", "ninechars", 3),
                 ("width", 3, 3), ("length", ["main"], 3), ("turn", "Main"), ("turn", ("main",))]
        for change in wrong:
            self.refused(InvalidChange, change, changed, ONE, change)
            changes = [("out", "main"), change]
            self.refused(InvalidChanges, changes, changed_by, ONE, changes)
            self.assertIs(are_changes(ONE, quarter_of(), [change]), False)

    def test_a_list_of_changes_one_after_the_other(self):
        self.assertEqual(changed_by(ONE, []), ONE)
        row = [("out", "main"), ("put", ("main", "out", "in", 1, 1)), ("width", "main", 2), ("turn", "main")]
        self.assertEqual(changed_by(ONE, row), ONE)
        self.assertEqual(changed_by(ONE, row[:3]), quarter_of(("main", "out", "in", 2, 1)))

    def test_the_first_one_that_does_not_fit_is_told(self):
        row = [("turn", "main"), ("width", "main", 7), ("width", "main", 7), ("out", "other")]
        self.refused(InvalidChange, row[2], changed_by, ONE, row)
        row = [("out", "main"), ("turn", "main")]
        self.refused(InvalidChange, row[1], changed_by, ONE, row)

    def test_forms_are_judged_before_any_change_is_made(self):
        row = [("out", "other"), ("out", "Main")]
        self.refused(InvalidChanges, row, changed_by, ONE, row)
        for row in [None, (), (("out", "main"),), {0: ("out", "main")}, ("out", "main"), "out", [[]], [None]]:
            self.refused(InvalidChanges, row, changed_by, ONE, row)


class Told(unittest.TestCase):
    def test_the_fewest_for_one_street(self):
        cases = [
            (STREET, STREET, 0), (None, STREET, 1), (STREET, None, 1),
            (STREET, ("main", "in", "out", 5, 1), 1), (STREET, ("main", "in", "out", 2, 0), 1),
            (STREET, ("main", "out", "in", 2, 1), 1), (STREET, ("main", "in", "out", 5, 5), 2),
            (STREET, ("main", "out", "in", 5, 1), 2), (STREET, ("main", "out", "in", 2, 5), 2),
            (STREET, ("main", "out", "in", 5, 5), 2), (STREET, ("main", "in", "mid", 2, 1), 2),
            (STREET, ("main", "mid", "out", 9, 9), 2), (STREET, ("other", "in", "out", 2, 1), 2),
        ]
        for before, after, many in cases:
            elder = quarter_of(*[street for street in [before] if street])
            newer = quarter_of(*[street for street in [after] if street])
            told = told_changes(elder, newer)
            self.assertEqual(len(told), many, (before, after))
            self.assertEqual(changed_by(elder, told), newer)
            self.assertIs(are_changes(elder, newer, told), True)

    def test_any_list_of_the_fewest_does(self):
        newer = quarter_of(("main", "out", "in", 5, 1))
        lists = [[("turn", "main"), ("width", "main", 5)], [("width", "main", 5), ("turn", "main")],
                 [("out", "main"), ("put", ("main", "out", "in", 5, 1))]]
        for value in lists:
            self.assertIs(are_changes(ONE, newer, value), True, value)
        for value in lists:
            for wrong in [value[:1], value[1:], value[::-1] + [("length", "main", 1)], tuple(value), value + value]:
                self.assertIs(are_changes(ONE, newer, wrong), False, wrong)
        self.assertIs(are_changes(ONE, newer, [("put", ("main", "out", "in", 5, 1)), ("out", "main")]), False)

    def test_more_than_the_fewest_is_none(self):
        self.assertIs(are_changes(ONE, ONE, []), True)
        self.assertIs(are_changes(ONE, ONE, [("turn", "main"), ("turn", "main")]), False)
        newer = quarter_of(("main", "in", "out", 3, 1))
        self.assertIs(are_changes(ONE, newer, [("width", "main", 3)]), True)
        self.assertIs(are_changes(ONE, newer, [("width", "main", 4), ("width", "main", 3)]), False)
        self.assertIs(are_changes(ONE, newer, [("out", "main"), ("put", ("main", "in", "out", 3, 1))]), False)

    def test_true_is_not_taken_for_one(self):
        elder, newer = quarter_of(), quarter_of(("main", "in", "out", 1, 1))
        self.assertIs(are_changes(elder, newer, [("put", ("main", "in", "out", 1, 1))]), True)
        self.assertIs(are_changes(elder, newer, [("put", ("main", "in", "out", True, 1))]), False)
        self.assertIs(are_changes(ONE, quarter_of(("main", "in", "out", 1, 1)), [("width", "main", True)]), False)

    def test_the_list_leads_to_the_very_quarter(self):
        self.assertIs(are_changes(ONE, TWO, told_changes(ONE, TWO)), True)
        self.assertIs(are_changes(TWO, ONE, told_changes(ONE, TWO)), False)
        for thing in odd_objects():
            self.assertIs(are_changes(ONE, quarter_of(), thing), plain(thing) == plain([("out", "main")]), thing)

    def test_the_fewest_by_trying_all(self):
        streets = [("a", "in", "out", 0, 0), ("a", "in", "out", 0, 1), ("a", "in", "out", 1, 1),
                   ("a", "out", "in", 1, 0), ("a", "in", "mid", 0, 0)]
        steps = [("put", street) for street in streets] + [("out", "a"), ("turn", "a")]
        steps += [(word, "a", number) for word in ("width", "length") for number in (0, 1)]
        quarters = [quarter_of()] + [quarter_of(street) for street in streets]
        rows = [list(row) for size in range(3) for row in itertools.product(steps, repeat=size)]
        for elder in quarters:
            reached = []
            for row in rows:
                try:
                    reached.append((row, changed_by(elder, row)))
                except InvalidChange:
                    continue
            for newer in quarters:
                least = min(len(row) for row, end in reached if end == newer)
                self.assertEqual(len(told_changes(elder, newer)), least)
                fewest = [row for row, end in reached if end == newer and len(row) == least]
                self.assertEqual([row for row in rows if are_changes(elder, newer, row)],
                                 [row for row in rows if row in fewest])

    def test_random_quarters(self):
        chance = random.Random(14)
        for _ in range(200):
            elder = Quarter(small_streets(chance, ["a", "b", "c"], chance.randint(0, 4), [0, 1], [0, 1]), ["a"])
            newer = Quarter(small_streets(chance, ["a", "b", "c"], chance.randint(0, 4), [0, 1], [0, 1]), ["a"])
            told = told_changes(elder, newer)
            self.assertEqual(changed_by(elder, told), newer)
            self.assertTrue(are_changes(elder, newer, told))
            self.assertFalse(are_changes(elder, newer, told[1:]) and told)
            self.assertFalse(are_changes(elder, newer, told + [("put", ("z", "a", "b", 1, 1))]))


if __name__ == "__main__":
    unittest.main()
