"""[87] to [92]: the edges that the document names, and what is no lot, order, bar or list of nights."""

import random
import time
import unittest

from gatequarters import works
from gatequarters.errors import InvalidCount, InvalidLot, InvalidMeasure, InvalidStreets, Unlike
from gatequarters.quarters import Quarter
from tests.calls import HIGH, SITE, WIDER
from tests.support import HOME, MEASURES, ONE, TWO, named_streets

NONE = Quarter([], ["in", "out"])
THIN = SITE["floor"]
DETOUR = WIDER + [("detour", "in", "out", 1, 5)]


class Lots(unittest.TestCase):
    def test_what_is_no_lot_of_works(self):
        for lot in ([2], [1, 0], [0, 0], [True], [False, 1], (0,), [-1], ["0"], None, {0: 1}, [[0]], 0, [None]):
            for function, rest in ((works.stage_of, []), (works.during, [[]])):
                with self.assertRaises(InvalidLot) as caught:
                    function(TWO, WIDER, lot, *rest)
                self.assertIs(caught.exception.value, lot)
            with self.assertRaises(InvalidLot) as caught:
                works.during(TWO, WIDER, [], lot)
            self.assertIs(caught.exception.value, lot)

    def test_works_that_are_done_are_not_being_done(self):
        for now in ([0], [0, 1]):
            with self.assertRaises(InvalidLot) as caught:
                works.during(TWO, WIDER, [0], now)
            self.assertIs(caught.exception.value, now)
        self.assertEqual(works.during(TWO, WIDER, [0], []), works.stage_of(TWO, WIDER, [0]))

    def test_works_that_put_a_street_in_shut_nothing(self):
        self.assertEqual(works.during(TWO, DETOUR, [], [2]), TWO)
        self.assertEqual(works.stage_of(TWO, DETOUR, [2]), Quarter(TWO.streets() + DETOUR[2:], ["in", "out"]))
        self.assertEqual(works.during(TWO, DETOUR, [2], [0, 1]).streets(),
                         [("detour", "in", "out", 1, 5), ("left", "in", "out", 0, 1), ("right", "in", "out", 0, 1)])

    def test_works_change_ends_too(self):
        turned = [("left", "out", "mid", 4, 7)]
        self.assertEqual(works.stage_of(TWO, turned, [0]).streets(), turned + [("right", "in", "out", 1, 1)])
        self.assertEqual(works.during(TWO, turned, [], [0]).streets(),
                         [("left", "in", "out", 0, 1), ("right", "in", "out", 1, 1)])

    def test_works_have_unlike_names(self):
        for rows in (WIDER + WIDER[:1], tuple(WIDER), [list(WIDER[0])], None, {}, [None]):
            for function in (works.safe_order, works.lots_reached):
                with self.assertRaises(InvalidStreets) as caught:
                    function(TWO, rows, True, True)
                self.assertIs(caught.exception.value, rows)


class Safe(unittest.TestCase):
    def test_no_works(self):
        for floor, holds in ((THIN, True), (ONE, True), (Quarter([("main", "in", "out", 3, 1)], ["in", "out"]), False)):
            self.assertEqual(works.safe_order(TWO, [], floor, "most"), [] if holds else None)
            self.assertIs(works.is_safe_order(TWO, [], floor, "most", []), holds)
            self.assertEqual(works.lots_reached(TWO, [], floor, "most"), [[]] if holds else [])
            self.assertIs(works.is_bar(TWO, [], floor, "most", []), not holds)
            self.assertIs(works.is_bar(TWO, [], floor, "most", [[]]), False)
            self.assertEqual(works.fewest_nights(TWO, [], floor, "most", 1), 0 if holds else None)
            self.assertEqual(works.night_lots(TWO, [], floor, "most", 1), [] if holds else None)
            self.assertIs(works.are_night_lots(TWO, [], floor, "most", 1, []), holds)
            self.assertIs(works.are_night_lots(TWO, [], floor, "most", 1, [[]]), False)
            told = works.bad_moment(TWO, [], floor, "most", [])
            self.assertEqual(None if told is None else told[:2], None if holds else (0, None))
        self.assertEqual(works.best_kept(TWO, [], "most", ("in",)), 2)
        self.assertEqual(works.best_order(TWO, [], "most", ("in",)), [])
        self.assertIs(works.is_best_order(TWO, [], "most", ("in",), []), True)
        self.assertEqual(works.stage_of(TWO, [], []), TWO)

    def test_one_gate_alone_and_no_streets(self):
        alone = Quarter([("s", "a", "x", 1, 1)], ["a"])
        for measure in MEASURES:
            self.assertEqual(len(works.safe_order(alone, [("s", "x", "a", 0, 0), ("t", "a", "y", 1, 1)], alone, measure)), 2)
            self.assertEqual(works.fewest_nights(NONE, WIDER, NONE, measure, 60), 1)
            self.assertEqual(works.safe_order(NONE, [], NONE, measure), [])
        for key in (("a",), (), ("a", "a")):
            with self.assertRaises(InvalidLot):
                works.best_kept(alone, [], "most", key)

    def test_what_is_no_order(self):
        for order in ([0], [0, 0], [0, 1, 2], [True, 0], [False, True], (0, 1), ["0", "1"], None, {0: 0, 1: 1}, [[0], [1]],
                      [0, None], [1, 2], [-1, 0], []):
            self.assertIs(works.is_safe_order(TWO, WIDER, THIN, "most", order), False)
            self.assertIs(works.is_best_order(TWO, WIDER, "most", ("in",), order), False)
            with self.assertRaises(InvalidLot) as caught:
                works.bad_moment(TWO, WIDER, THIN, "most", order)
            self.assertIs(caught.exception.value, order)
            with self.assertRaises(InvalidLot):
                works.is_bad_moment(TWO, WIDER, THIN, "most", order, None)

    def test_what_is_no_bar(self):
        self.assertIs(works.is_bar(**HIGH, value=[[]]), True)
        # Behind the first work the second one may follow, and then all are done.
        self.assertIs(works.is_bar(**HIGH, value=[[0], []]), False)
        poor = {**HIGH, "works": [("left", "in", "out", 1, 2), ("right", "in", "out", 1, 2)]}
        self.assertIs(works.is_bar(**poor, value=[[1], [], [0]]), True)
        for value in ([], [[0]], [[], []], [[], [0, 1]], [()], ([],), [[], [True]], [[], [1, 0]], None, {}, [[], [2]],
                      [[], None], [[0], [], [0]]):
            self.assertIs(works.is_bar(**HIGH, value=value), False, value)
        high = {**HIGH, "floor": Quarter([("main", "in", "out", 3, 1)], ["in", "out"])}
        self.assertIs(works.is_bar(**high, value=[]), True)
        self.assertIs(works.is_bar(**high, value=()), False)

    def test_what_are_no_nights(self):
        self.assertIs(works.are_night_lots(TWO, WIDER, NONE, "most", 2, [[0, 1]]), True)
        for value in ([[1, 0]], [[0], [1]], [[0, 1], []], [[]], [], [(0, 1)], ([0, 1],), [[False, True]], None, [[0]],
                      [[0, 1], [0, 1]], [[0, 1, 2]], {}, [[0, 0]], [0, 1]):
            self.assertIs(works.are_night_lots(TWO, WIDER, NONE, "most", 2, value), False, value)
        self.assertIs(works.are_night_lots(TWO, WIDER, NONE, "most", 1, [[0, 1]]), False)
        self.assertIs(works.are_night_lots(TWO, WIDER, NONE, "most", 1, [[1], [0]]), True)
        for most_works in (0, -1, True, None, "1", (1,)):
            with self.assertRaises(InvalidCount) as caught:
                works.night_lots(TWO, WIDER, NONE, "most", most_works)
            self.assertIs(caught.exception.value, most_works)
        self.assertEqual(works.fewest_nights(TWO, WIDER, NONE, "most", 10 ** 29), 1)

    def test_nights_are_not_empty_and_not_too_long(self):
        four = [(name, "in", "out", 1, 1) for name in "abcd"]
        asked = (NONE, four, NONE, "most", 2)
        self.assertEqual(works.fewest_nights(*asked), 2)
        for value, right in (([[0, 3], [1, 2]], True), ([[0, 1, 2], [3]], False), ([[0, 1, 2, 3], []], False),
                             ([[0, 1], [2]], False), ([[0], [1], [2, 3]], False), ([[2, 3], [0, 1]], True)):
            self.assertIs(works.are_night_lots(*asked, value), right)

    def test_more_works_at_once_can_need_more_nights_than_works_are_left(self):
        self.assertEqual(works.fewest_nights(TWO, DETOUR, ONE, "most", 1), 3)
        self.assertEqual(works.fewest_nights(TWO, DETOUR, THIN, "most", 3), 2)
        self.assertEqual(works.night_lots(TWO, DETOUR, NONE, "most", 3), [[0, 1, 2]])

    def test_what_is_no_bad_moment(self):
        order = [1, 0]
        self.assertIs(works.is_bad_moment(**HIGH, order=order, value=(0, 1, HOME, "home", "shop")), True)
        for value in ((0, 0, HOME, "home", "shop"), (0, None, HOME, "home", "shop"), (False, 1, HOME, "home", "shop"),
                      (0, True, HOME, "home", "shop"), [0, 1, HOME, "home", "shop"], (0, 1, HOME, "home"), None, (),
                      (0, 1, HOME, "shop", "home"), (0, 1, HOME, "home", "home"), (0, 1, TWO, "home", "shop"),
                      (0, 1, (HOME, "home", "shop")), (0, 1, HOME, "home", "far"), (1, 1, HOME, "home", "shop")):
            self.assertIs(works.is_bad_moment(**HIGH, order=order, value=value), False, value)
        for value in (None, (0, 1, HOME, "home", "shop"), (2, None, HOME, "home", "shop")):
            self.assertIs(works.is_bad_moment(**SITE, order=order, value=value), False)

    def test_floors_with_other_gates(self):
        for gates in (["in"], ["in", "out", "end"]):
            floor = Quarter([], gates)
            with self.assertRaises(Unlike) as caught:
                works.safe_order(TWO, WIDER, floor, True)
            self.assertIs(caught.exception.value, floor)
        with self.assertRaises(InvalidMeasure):
            works.fewest_nights(TWO, WIDER, ONE, "far", True)

    def test_at_the_limits(self):
        chance = random.Random(9)
        began = time.monotonic()
        for measure, many, streets in [("most", 5, 14), ("way", 5, 14), ("widest", 5, 14), ("shut1", 4, 8), ("shut2", 4, 8)]:
            words = list("abcdefgh")
            quarter = Quarter(named_streets(chance, words, streets, 20000), list("abcd"))
            rows = named_streets(chance, words, many, 20000)
            names = [street[0] for street in quarter.streets()]
            rows = [(names[3 * k] if k < 2 else "zz" + "abcdef"[k],) + street[1:] for k, street in enumerate(rows)]
            floor = Quarter([street for street in quarter.streets() if street[0] not in names[:4]], list("abcd"))
            order = works.safe_order(quarter, rows, floor, measure)
            reached = works.lots_reached(quarter, rows, floor, measure)
            self.assertEqual(order is not None, list(range(many)) in reached)
            self.assertIs(works.is_bar(quarter, rows, floor, measure, reached), order is None)
            nights = works.night_lots(quarter, rows, floor, measure, 3)
            self.assertIs(works.are_night_lots(quarter, rows, floor, measure, 3, nights), nights is not None)
            key = ("a",) if measure in ("most", "shut1", "shut2") else ("a", "b")
            best = works.best_order(quarter, rows, measure, key)
            self.assertIs(works.is_best_order(quarter, rows, measure, key, best), True)
            self.assertEqual(works.bad_moment(quarter, rows, floor, measure, list(range(many))) is None,
                             works.is_safe_order(quarter, rows, floor, measure, list(range(many))))
        self.assertLess(time.monotonic() - began, 30)


if __name__ == "__main__":
    unittest.main()
