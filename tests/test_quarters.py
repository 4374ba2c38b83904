"""[10] to [12]: words, streets, quarters, towns and what can be asked of."""

import unittest

from gatequarters.errors import InvalidGates, InvalidName, InvalidStreets
from gatequarters.quarters import Quarter, Town, asked_of, crossings_of, is_street, is_word, places_of, street_of
from tests.support import HOME, LANE, ONE, TWO, odd_objects, plain

AB = ("ab", "a", "b", 2, 1)


class Words(unittest.TestCase):
    def test_one_to_eight_letters_from_a_to_z(self):
        for word in ["a", "z", "az", "main", "abcdefgh", "zzzzzzzz"]:
            self.assertIs(is_word(word), True, word)

    def test_other_strings_are_no_words(self):
        for text in ["", "abcdefghi", "A", "aB", "a b", " a", "a\n", "a1", "a-b", "`", "{", "a{", "`a"]:
            self.assertIs(is_word(text), False, text)

    def test_other_objects_are_no_words(self):
        for thing in odd_objects():
            if plain(thing) not in (plain("main"), plain("in")):
                self.assertIs(is_word(thing), False, thing)
        self.assertIs(is_word(["a", "b"]), False)
        self.assertIs(is_word(("a",)), False)
        self.assertIs(is_word({"a": 1}), False)


class Streets(unittest.TestCase):
    def test_a_street(self):
        for street in [AB, ("a", "b", "c", 0, 0), ("a", "a", "b", 20000, 20000), ("b", "a", "b", 10 ** 29, 0)]:
            self.assertIs(is_street(street), True, street)

    def test_words_and_counts_in_their_places(self):
        for at in range(5):
            for thing in odd_objects() + ["toolongaword", -5]:
                right = plain(thing) in (("'main'", "'in'") if at < 3 else ("0", "1", "7", str(10 ** 29)))
                street = AB[:at] + (thing,) + AB[at + 1:]
                self.assertIs(is_street(street), right, street)

    def test_true_and_false_are_no_counts(self):
        for street in [("ab", "a", "b", True, 1), ("ab", "a", "b", 1, False)]:
            self.assertIs(is_street(street), False)

    def test_ends_are_unlike(self):
        self.assertIs(is_street(("ab", "a", "a", 2, 1)), False)

    def test_a_tuple_of_five(self):
        for thing in [AB[:4], AB + (1,), list(AB), {0: AB}, dict.fromkeys(AB), (AB,), "aabcd"]:
            self.assertIs(is_street(thing), False, thing)

    def test_other_objects_are_no_streets(self):
        for thing in odd_objects():
            self.assertIs(is_street(thing), plain(thing) == plain(("main", "in", "out", 2, 1)), thing)


class Quarters(unittest.TestCase):
    def test_streets_and_gates_ascend(self):
        quarter = Quarter([("b", "x", "y", 1, 1), ("a", "y", "x", 9, 0)], ["y", "g", "x"])
        self.assertEqual(quarter.streets(), [("a", "y", "x", 9, 0), ("b", "x", "y", 1, 1)])
        self.assertEqual(quarter.gates(), ["g", "x", "y"])
        self.assertEqual(plain([quarter.streets(), quarter.gates()]),
                         "[[('a', 'y', 'x', 9, 0,), ('b', 'x', 'y', 1, 1,)], ['g', 'x', 'y']]")

    def test_lists_that_are_none_are_refused(self):
        wrong = [[AB, AB], [AB, ("ab", "b", "c", 1, 1)], [AB, None], [AB, list(AB)], [("ab", "a", "a", 1, 1)],
                 [("ab", "a", "b", True, 1)], (AB,), {"ab": AB}, AB, None, "ab"]
        for streets in wrong:
            for make in [lambda: Quarter(streets, ["a"]), lambda: Quarter(streets, []), lambda: Town(streets)]:
                with self.assertRaises(InvalidStreets) as caught:
                    make()
                self.assertIs(caught.exception.value, streets)

    def test_gates_that_are_none_are_refused(self):
        for gates in [[], ["a", "a"], ["a", "B"], ["a", 1], ["a", ["b"]], ("a",), {"a": 1}, "a", None, ["ninechars"]]:
            with self.assertRaises(InvalidGates) as caught:
                Quarter([AB], gates)
            self.assertIs(caught.exception.value, gates)

    def test_gates_need_not_be_ends_of_streets(self):
        self.assertEqual(crossings_of(Quarter([], ["z", "a"])), ["a", "z"])
        self.assertEqual(crossings_of(Quarter([AB], ["z", "b"])), ["a", "b", "z"])

    def test_crossings_ascend_without_doubles(self):
        self.assertEqual(crossings_of(LANE), ["a", "b", "c", "x", "y"])

    def test_equal_if_streets_and_gates_are(self):
        self.assertTrue(ONE == Quarter([("main", "in", "out", 2, 1)], ["out", "in"]))
        self.assertFalse(ONE != Quarter([("main", "in", "out", 2, 1)], ["out", "in"]))
        others = [Quarter([("main", "in", "out", 2, 2)], ["in", "out"]), Quarter([], ["in", "out"]),
                  Quarter([("main", "in", "out", 2, 1)], ["in"]), Quarter([("m", "in", "out", 2, 1)], ["in", "out"]),
                  Quarter([("main", "out", "in", 2, 1)], ["in", "out"]), TWO]
        for other in others:
            self.assertFalse(ONE == other)
            self.assertTrue(ONE != other)

    def test_never_equal_to_other_things(self):
        empty = Town([])
        for thing in odd_objects():
            if not isinstance(thing, Quarter):
                self.assertIs(Quarter([("main", "in", "out", 2, 1)], ["in", "out"]) == thing, False)
                self.assertIs(thing == Quarter([], ["z"]), False)
            if not isinstance(thing, Town):
                self.assertIs(empty == thing, False)
                self.assertIs(thing == Town([("main", "in", "out", 2, 1)]), False)

    def test_the_street_of_a_name(self):
        self.assertEqual(street_of(LANE, "ba"), ("ba", "b", "a", 0, 1))
        for name in ["zz", "a", "x", "AB", ("ab",), ["ab"], None, True, ("ab", "a", "b", 2, 1)]:
            with self.assertRaises(InvalidName) as caught:
                street_of(LANE, name)
            self.assertIs(caught.exception.value, name)

    def test_limits(self):
        words = [letter * 8 for letter in "abcdefgh"]
        streets = [(letter * 8, words[k % 7], words[k % 7 + 1], 20000, 20000)
                   for k, letter in enumerate("abcdefghijklmnopqrstuvwx")]
        quarter = Quarter(streets, words[:5])
        self.assertEqual(quarter.streets(), streets)
        self.assertEqual(crossings_of(quarter), words)
        self.assertEqual(street_of(quarter, "x" * 8), streets[23])


class Towns(unittest.TestCase):
    def test_streets_and_places_ascend(self):
        town = Town([("z", "b", "park", 1, 7), ("ab", "x", "a", 5, 0)])
        self.assertEqual(town.streets(), [("ab", "x", "a", 5, 0), ("z", "b", "park", 1, 7)])
        self.assertEqual(places_of(town), ["a", "b", "park", "x"])
        self.assertEqual(places_of(Town([])), [])

    def test_equal_if_streets_are(self):
        self.assertTrue(HOME == Town(HOME.streets()[::-1]))
        self.assertFalse(HOME != Town(HOME.streets()))
        longer = Town([("go", "home", "in", 5, 2), ("come", "out", "shop", 5, 2)])
        for other in [Town([]), Town(HOME.streets()[:1]), longer]:
            self.assertFalse(HOME == other)
            self.assertTrue(HOME != other)

    def test_a_town_is_no_quarter(self):
        self.assertFalse(Town(ONE.streets()) == ONE)
        self.assertFalse(ONE == Town(ONE.streets()))

    def test_gates_and_places_can_be_asked_of(self):
        town = Town([("ab", "x", "a", 5, 0), ("z", "b", "park", 1, 7)])
        self.assertEqual(asked_of(LANE, town), ["a", "b", "c", "park", "x"])
        self.assertEqual(asked_of(LANE, Town([])), ["a", "b", "c"])
        self.assertEqual(asked_of(ONE, HOME), ["home", "in", "out", "shop"])


if __name__ == "__main__":
    unittest.main()
