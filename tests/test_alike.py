"""[37] to [42]: the edges that the document names, and what is no notice or hearing quarter."""

import unittest

from gatequarters import alike
from gatequarters.errors import InvalidGates, InvalidLot, InvalidMeasure, InvalidPlace, InvalidTown
from gatequarters.quarters import Quarter, Town
from tests.support import HOME, MEASURES, ONE, TWO

RING = Quarter([("ab", "a", "b", 1, 1), ("bc", "b", "c", 1, 1), ("ca", "c", "a", 1, 1)], ["a", "b", "c"])
STAR = Quarter([("ax", "a", "x", 1, 1), ("bx", "b", "x", 1, 1), ("cx", "c", "x", 1, 1), ("xa", "x", "a", 9, 1),
                ("xb", "x", "b", 9, 1), ("xc", "x", "c", 9, 1)], ["a", "b", "c"])


class Alike(unittest.TestCase):
    def test_one_gate_alone_shows_nothing(self):
        one, other = Quarter([], ["a"]), Quarter([("on", "a", "x", 3, 1), ("off", "x", "a", 2, 1)], ["a"])
        self.assertEqual(alike.alike_measures(one, other), MEASURES)
        for measure in MEASURES:
            self.assertIsNone(alike.notice_of(one, other, measure))
            self.assertIsNone(alike.notice_size(one, other, measure))
            self.assertIsNone(alike.gates_needed(one, other, measure))
            self.assertEqual(alike.unlike_keys(one, other, measure), [])
            self.assertIs(alike.is_notice(one, other, measure, None), False)
            with self.assertRaises(InvalidLot):
                alike.notice_at(one, other, measure, ("a",))

    def test_two_places_beyond_one_gate(self):
        gate = Quarter([], ["a"])
        self.assertEqual(alike.asked(gate, "shut1", Town([("s", "s", "a", 2, 1), ("t", "a", "t", 5, 1)]), "s", "t"), 2)

    def test_only_the_quarters_streets_are_shut(self):
        town = Town([("by", "in", "out", 7, 1)])
        self.assertEqual([alike.asked(ONE, measure, town, "in", "out") for measure in MEASURES], [9, 7, 7, 1, 7])
        self.assertEqual([alike.asked(TWO, measure, town, "in", "out") for measure in MEASURES], [9, 8, 7, 1, 7])

    def test_wide_towns_see_more_than_two_gates(self):
        self.assertEqual(alike.notice_size(RING, STAR, "most"), 1)
        self.assertEqual(alike.gates_needed(RING, STAR, "most"), 3)
        notice = alike.notice_at(RING, STAR, "most", ("a", "b"))
        self.assertEqual([alike.asked(quarter, "most", *notice) for quarter in (RING, STAR)], [1, 2])

    def test_what_is_no_notice(self):
        link = Town([("t", "a", "b", 99, 0)])
        self.assertIs(alike.is_notice(RING, STAR, "most", (link, "a", "c")), True)
        for value in ([link, "a", "c"], (link, "a"), (link, "a", "a"), (link, "a", "x"), (link, "z", "c"),
                      (None, "a", "c"), (link, "c", "a"), (Town([]), "a", "c"), (RING, "a", "c"),
                      (link, ("gate", "a"), "c"), (link, "a", "c", None), None):
            self.assertIs(alike.is_notice(RING, STAR, "most", value), False, value)

    def test_keys_at_which_they_are_alike_have_no_notice(self):
        for key in (("a",), ("b", "a"), ["a", "b"], ("a", "b", "c"), (), None):
            with self.assertRaises(InvalidLot) as caught:
                alike.notice_at(RING, STAR, "most", key)
            self.assertIs(caught.exception.value, key)

    def test_a_notice_may_be_asked_again(self):
        notice = alike.notice_of(RING, STAR, "most")
        self.assertIs(alike.is_notice(RING, STAR, "most", notice), True)
        town = Town(notice[0].streets() + [("more", "c", "park", 1, 1)])
        self.assertIs(alike.is_notice(RING, STAR, "most", (town,) + notice[1:]), True)


class Even(unittest.TestCase):
    town = Town([("s", "home", "a", 1, 0), ("t", "b", "shop", 1, 0)])

    def test_measures_of_even_towns(self):
        for measure in ("shut1", "shut2", "widest", "most ", None):
            with self.assertRaises(InvalidMeasure) as caught:
                alike.are_even(["a"], measure, self.town, self.town, "home", "shop")
            self.assertIs(caught.exception.value, measure)
            with self.assertRaises(InvalidMeasure):
                alike.is_hearing_quarter(["a"], measure, self.town, self.town, "home", "shop", None)

    def test_places_stand_in_both_towns_or_are_gates(self):
        other = Town([("s", "home", "a", 1, 0)])
        self.assertIs(alike.are_even(["a", "b"], "way", self.town, other, "home", "b"), True)
        for start, goal, wrong in (("home", "shop", "shop"), ("shop", "home", "shop"), ("home", "home", "home")):
            with self.assertRaises(InvalidPlace) as caught:
                alike.hearing_quarter(["a", "b"], "way", self.town, other, start, goal)
            self.assertIs(caught.exception.value, wrong)

    def test_errors_in_their_order(self):
        with self.assertRaises(InvalidGates):
            alike.are_even([], None, None, None, None, None)
        with self.assertRaises(InvalidTown) as caught:
            alike.are_even(["a"], "way", self.town, ONE, None, None)
        self.assertIs(caught.exception.value, ONE)

    def test_what_is_no_hearing_quarter(self):
        wide = Town([("s", "home", "a", 2, 0), ("t", "b", "shop", 2, 0)])
        asked = (["b", "a"], "most", self.town, wide, "home", "shop")
        heard = alike.hearing_quarter(*asked)
        self.assertIs(alike.is_hearing_quarter(*asked, heard), True)
        streets = heard.streets()
        for value in (None, streets, Quarter(streets, ["a", "b", "c"]), Quarter([], ["a", "b"]),
                      Quarter([("thin", "a", "b", 1, 0)], ["a", "b"]), self.town):
            self.assertIs(alike.is_hearing_quarter(*asked, value), False)
        self.assertIs(alike.is_hearing_quarter(*asked, Quarter([("on", "a", "b", 2, 0)], ["a", "b"])), True)

    def test_towns_that_differ_beyond_what_is_asked_are_even(self):
        other = Town(self.town.streets() + [("more", "shop", "park", 9, 1), ("back", "b", "home", 9, 1)])
        for measure in ("most", "way"):
            self.assertIs(alike.are_even(["a", "b"], measure, self.town, other, "home", "shop"), True)
            self.assertIsNone(alike.hearing_quarter(["a", "b"], measure, self.town, other, "home", "shop"))

    def test_two_gates_as_start_and_goal(self):
        one, other = Town([("t", "a", "b", 1, 4)]), Town([("t", "a", "b", 1, 5)])
        self.assertIs(alike.are_even(["a", "b"], "most", one, other, "a", "b"), True)
        self.assertIs(alike.are_even(["a", "b"], "way", one, other, "a", "b"), False)
        self.assertIs(alike.are_even(["a", "b"], "way", one, other, "b", "a"), True)
        self.assertIs(alike.are_even(["a", "b", "c"], "most", one, Town([("t", "a", "c", 1, 4)]), "a", "b"), False)

    def test_towns_without_streets(self):
        self.assertIs(alike.are_even(["a", "b"], "most", Town([]), Town([]), "a", "b"), True)
        self.assertIs(alike.are_even(["a", "b"], "most", Town([]), HOME, "a", "b"), True)


if __name__ == "__main__":
    unittest.main()
