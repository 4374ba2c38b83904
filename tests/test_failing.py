"""[61] to [66]: the edges that the document names, and what is no shutting, paper or town."""

import unittest

from gatequarters import failing
from gatequarters.errors import InvalidCount, InvalidLot, InvalidQuarter
from gatequarters.quarters import Quarter, Town
from tests.support import HOME, ONE, TWO

ALONE = Quarter([("off", "x", "a", 2, 1), ("on", "a", "x", 3, 1)], ["a"])
NONE = Quarter([], ["in", "out"])
SHUT = Quarter([("main", "in", "out", 0, 1), ("side", "in", "out", 4, 1)], ["in", "out"])
PAPER = [(["left"], {"left": 0, "right": 1}), (["right"], {"left": 1, "right": 0})]


class Left(unittest.TestCase):
    def test_no_streets(self):
        for many in (0, 1, 2):
            self.assertEqual(failing.most_left(NONE, ("in",), many), 0)
            self.assertEqual(failing.worst_shutting(NONE, ("in",), many), [])
            self.assertEqual(failing.failing_paper(NONE, ("in",), many), [([], {})])
            self.assertIs(failing.is_failing_paper(NONE, ("in",), many, [([], {})]), True)
            self.assertIs(failing.is_failing_paper(NONE, ("in",), many, []), False)
            self.assertEqual(failing.losses(NONE, many), {("in",): 0, ("out",): 0})
            self.assertIs(failing.is_losing_town(NONE, many, failing.losing_town(NONE, many)), True)
        self.assertEqual(failing.lowering_streets(NONE, ("in",)), [])
        self.assertEqual(failing.cutting_streets(NONE, ("in",)), [])
        self.assertEqual(failing.fewest_doubled(NONE), [])
        self.assertEqual(failing.doubled(NONE, []), NONE)

    def test_only_open_streets_are_shut(self):
        self.assertEqual(failing.worst_shutting(SHUT, ("in",), 2), ["side"])
        self.assertIs(failing.is_worst_shutting(SHUT, ("in",), 2, ["main", "side"]), False)
        self.assertIs(failing.is_worst_shutting(SHUT, ("in",), 1, ["main"]), False)
        self.assertEqual([row[0] for row in failing.failing_paper(SHUT, ("in",), 2)], [["side"]])
        self.assertEqual(failing.lowering_streets(SHUT, ("in",)), ["side"])
        self.assertEqual(failing.cutting_streets(SHUT, ("in",)), ["side"])
        self.assertEqual(failing.fewest_doubled(SHUT), ["side"])
        self.assertIs(failing.is_fewest_doubled(SHUT, ["main"]), False)

    def test_a_wide_street_can_lower_and_cut_nothing(self):
        neck = Quarter([("p", "a", "x", 1, 1), ("q", "a", "x", 1, 1), ("r", "x", "b", 9, 1)], ["a", "b"])
        self.assertEqual(failing.lowering_streets(neck, ("a",)), ["p", "q", "r"])
        self.assertEqual(failing.cutting_streets(neck, ("a",)), ["p", "q"])
        self.assertEqual(failing.worst_shutting(neck, ("a",), 1), ["r"])
        self.assertEqual(failing.worst_shutting(neck, ("a",), 2), ["r"])

    def test_one_street_is_shut_where_two_leave_no_less(self):
        for names in ("pqr", "qpr", "rqp"):
            one, left, right = names
            neck = Quarter([(one, "a", "x", 2, 1), (left, "x", "b", 1, 1), (right, "x", "b", 1, 1)], ["a", "b"])
            self.assertEqual(failing.worst_shutting(neck, ("a",), 2), [one])
            self.assertIs(failing.is_worst_shutting(neck, ("a",), 2, [one]), True)
            self.assertIs(failing.is_worst_shutting(neck, ("a",), 2, sorted([left, right])), False)

    def test_what_is_no_worst_shutting(self):
        self.assertIs(failing.is_worst_shutting(TWO, ("in",), 2, ["left", "right"]), True)
        for value in (("left", "right"), ["right", "left"], ["left"], [], None, ["left", "left"], ["left", "none"]):
            self.assertIs(failing.is_worst_shutting(TWO, ("in",), 2, value), False)
        self.assertIs(failing.is_worst_shutting(TWO, ("in",), 0, []), True)
        self.assertIs(failing.is_worst_shutting(TWO, ("in",), 0, ["left"]), False)

    def test_what_is_no_failing_paper(self):
        self.assertIs(failing.is_failing_paper(TWO, ("in",), 1, PAPER), True)
        for value in (
            tuple(PAPER), PAPER[::-1], PAPER + PAPER[1:], [list(row) for row in PAPER], [PAPER[0], None],
            [PAPER[0], (("right",), PAPER[1][1])], [PAPER[0], (["right"], {"left": 1})],
            [PAPER[0], (["right"], {"left": 0, "right": 0})], [PAPER[0], (["right"], {"left": 0, "right": 1})],
            [PAPER[0], (["right"], {"left": True, "right": 0})], [PAPER[0], PAPER[1] + (None,)], {}, None,
            [(["left"], {"left": 0, "right": 1}), (["left", "right"], {"left": 0, "right": 0})],
        ):
            self.assertIs(failing.is_failing_paper(TWO, ("in",), 1, value), False, value)

    def test_flows_of_a_paper_have_just_what_is_left(self):
        three = Quarter([("p", "in", "out", 1, 1), ("q", "in", "out", 3, 1)], ["in", "out"])
        self.assertEqual(failing.failing_paper(three, ("in",), 1),
                         [(["p"], {"p": 0, "q": 1}), (["q"], {"p": 1, "q": 0})])
        more = [(["p"], {"p": 0, "q": 3}), (["q"], {"p": 1, "q": 0})]
        self.assertIs(failing.is_failing_paper(three, ("in",), 1, more), False)

    def test_wrong_arguments(self):
        for lot in ((), ("in", "out"), ["in"], "in", ("mid",), None):
            for call in (failing.most_left, failing.worst_shutting, failing.failing_paper):
                with self.assertRaises(InvalidLot) as caught:
                    call(TWO, lot, None)
                self.assertIs(caught.exception.value, lot)
        for many in (3, -1, True, None, "1", [1]):
            for call in (failing.most_left, failing.worst_shutting, failing.failing_paper):
                with self.assertRaises(InvalidCount) as caught:
                    call(TWO, ("in",), many)
                self.assertIs(caught.exception.value, many)
            for call in (failing.losses, failing.is_safe, failing.loss_by_shutting, failing.losing_town):
                with self.assertRaises(InvalidCount) as caught:
                    call(TWO, many)
                self.assertIs(caught.exception.value, many)
                with self.assertRaises(InvalidQuarter):
                    call(None, many)


class Losses(unittest.TestCase):
    def test_one_gate_alone(self):
        for many in (0, 1, 2):
            self.assertEqual(failing.losses(ALONE, many), {})
            self.assertIs(failing.is_safe(ALONE, many), True)
            self.assertEqual(failing.loss_by_shutting(ALONE, many), 0)
            self.assertIsNone(failing.losing_town(ALONE, many))
            town = Town([("s", "s", "a", 1, 1)])
            for value in (None, (town, "s", "a"), (town, "a", "s")):
                self.assertIs(failing.is_losing_town(ALONE, many, value), False)
        self.assertEqual(failing.fewest_doubled(ALONE), [])
        self.assertIs(failing.is_fewest_doubled(ALONE, []), True)
        self.assertIs(failing.is_fewest_doubled(ALONE, ["on"]), False)

    def test_no_street_shut_loses_nothing(self):
        self.assertEqual(failing.losses(ONE, 0), {("in",): 0, ("out",): 0})
        for town, start, goal in ((HOME, "home", "shop"), (HOME, "shop", "home"), (Town([]), "out", "in")):
            self.assertIs(failing.is_losing_town(ONE, 0, (town, start, goal)), True)

    def test_what_is_no_losing_town(self):
        self.assertIs(failing.is_losing_town(TWO, 1, (HOME, "home", "shop")), True)
        narrow = Town([("go", "home", "in", 1, 1)])
        for value in ((narrow, "home", "out"), [HOME, "home", "shop"], (HOME, "home"), (HOME, "home", "home"),
                      (HOME, "home", "none"), (ONE, "in", "out"), None, (None, None, None)):
            self.assertIs(failing.is_losing_town(TWO, 1, value), False)

    def test_widths_up_to_20000(self):
        wide = Quarter([("p", "in", "out", 20000, 1), ("q", "in", "out", 19999, 1)], ["in", "out"])
        self.assertEqual(failing.losses(wide, 1), {("in",): 20000, ("out",): 0})
        self.assertEqual(failing.loss_by_shutting(wide, 2), 39999)


class Doubled(unittest.TestCase):
    def test_the_first_words_that_no_street_bears(self):
        quarter = Quarter([("a", "in", "out", 1, 2), ("c", "out", "in", 3, 4), ("z", "in", "out", 0, 6)], ["in", "out"])
        self.assertEqual(failing.doubled(quarter, ["a", "c", "z"]).streets(), [
            ("a", "in", "out", 1, 2), ("b", "in", "out", 1, 2), ("c", "out", "in", 3, 4), ("d", "out", "in", 3, 4),
            ("e", "in", "out", 0, 6), ("z", "in", "out", 0, 6)])

    def test_words_of_two_letters(self):
        letters = "abcdefghijklmnopqrstuvwxyz"
        quarter = Quarter([(letter, "in", "out", 1, 2) for letter in letters], ["in", "out"])
        told = failing.doubled(quarter, ["x", "y"]).streets()
        self.assertEqual([street[0] for street in told if len(street[0]) > 1], ["aa", "ab"])

    def test_wrong_names(self):
        for names in (("left",), ["right", "left"], ["none"], None, ["left", "left"]):
            with self.assertRaises(InvalidLot) as caught:
                failing.doubled(TWO, names)
            self.assertIs(caught.exception.value, names)
            self.assertIs(failing.is_fewest_doubled(TWO, names), False)

    def test_every_open_street_where_each_is_the_only_one(self):
        row = Quarter([("p", "a", "x", 1, 1), ("q", "x", "y", 1, 1), ("r", "y", "b", 1, 1)], ["a", "b"])
        self.assertEqual(failing.fewest_doubled(row), ["p", "q", "r"])
        self.assertIs(failing.is_fewest_doubled(row, ["p", "q", "r"]), True)
        self.assertIs(failing.is_fewest_doubled(row, ["p", "q"]), False)

    def test_eight_streets(self):
        many = Quarter([(name, "a", "b", 1, 1) for name in "abcdefgh"], ["a", "b"])
        self.assertEqual(len(failing.fewest_doubled(many)), 1)
        self.assertIs(failing.is_fewest_doubled(many, ["h"]), True)


if __name__ == "__main__":
    unittest.main()
