"""[80] to [86]: the edges that the document names, and what is no supply, carrying or heights."""

import random
import time
import unittest

from gatequarters import prices
from gatequarters.errors import InvalidCount, InvalidPlace, InvalidSupply
from gatequarters.quarters import Quarter, Town
from tests.support import HOME, ONE, TWO, named_streets

ALONE = Quarter([("off", "x", "a", 2, 1), ("on", "a", "x", 1, 1)], ["a"])
NONE = Quarter([], ["in", "out"])
SHUT = Quarter([("main", "in", "out", 0, 1)], ["in", "out"])
NEAR = Quarter([("near", "in", "out", 1, 1), ("far", "in", "out", 1, 3)], ["in", "out"])
JUDGES = [prices.is_cheapest, prices.are_price_heights, prices.is_barring_lot]


class Supplies(unittest.TestCase):
    def test_what_is_no_supply(self):
        for supply in ([2, -2], (2, -1), (2,), (2, -2, 0), (), ("2", -2), (True, -1), (False, 0), None, {},
                       {"in": 2, "out": -2}, (2, None), (0, 0, 0), ((0, 0),), 0):
            for function in (prices.cost_of, prices.cheapest, prices.price_heights, prices.barring_lot,
                             prices.price_town):
                with self.assertRaises(InvalidSupply) as caught:
                    function(NEAR, supply)
                self.assertIs(caught.exception.value, supply)
            for judge in JUDGES:
                with self.assertRaises(InvalidSupply):
                    judge(NEAR, supply, None)
            self.assertIs(prices.is_unlike_supply(NEAR, TWO, supply), False)
            self.assertIs(prices.is_dearer_supply(TWO, NEAR, supply), False)

    def test_a_supply_of_noughts(self):
        for quarter in (NEAR, NONE, SHUT):
            self.assertEqual(prices.cost_of(quarter, (0, 0)), 0)
            self.assertEqual(prices.cheapest(quarter, (0, 0)), {street[0]: 0 for street in quarter.streets()})
            self.assertIsNone(prices.barring_lot(quarter, (0, 0)))
            with self.assertRaises(InvalidSupply):
                prices.price_town(quarter, (0, 0))
        self.assertIs(prices.are_price_heights(NEAR, (0, 0), {"in": 5, "out": 5}), True)
        self.assertIs(prices.are_price_heights(NEAR, (0, 0), {"in": 5, "out": 7}), False)

    def test_one_gate_alone(self):
        self.assertEqual(prices.costs(ALONE), {(0,): 0})
        self.assertEqual(prices.cost_of(ALONE, (0,)), 0)
        self.assertEqual(prices.cheapest(ALONE, (0,)), {"off": 0, "on": 0})
        self.assertIs(prices.is_cheapest(ALONE, (0,), {"off": 1, "on": 1}), False)
        self.assertIs(prices.are_price_heights(ALONE, (0,), prices.price_heights(ALONE, (0,))), True)
        self.assertIsNone(prices.barring_lot(ALONE, (0,)))
        self.assertIs(prices.are_price_alike(ALONE, Quarter([], ["a"])), True)
        for supply in ((1,), (-1,), (True,)):
            with self.assertRaises(InvalidSupply):
                prices.cost_of(ALONE, supply)
        with self.assertRaises(InvalidSupply):
            prices.price_town(ALONE, (0,))

    def test_no_streets_and_shut_streets(self):
        for quarter in (NONE, SHUT):
            self.assertEqual(prices.costs(quarter), {(0, 0): 0})
            self.assertEqual(prices.barring_lot(quarter, (1, -1)), ("in",))
            self.assertEqual(prices.barring_lot(quarter, (-1, 1)), ("out",))
            self.assertEqual(prices.price_list(quarter, Town([]), "in", "out"), [0])
            self.assertIs(prices.are_price_alike(quarter, NONE), True)
        self.assertEqual(prices.dearer_supply(ONE, NONE), (1, -1))
        self.assertIsNone(prices.dearer_supply(NONE, ONE))

    def test_rings_of_length_nought_are_carried_by_any_carrying(self):
        ring = Quarter([("go", "in", "x", 1, 0), ("back", "x", "in", 1, 0), ("main", "in", "out", 1, 4)], ["in", "out"])
        self.assertIs(prices.is_cheapest(ring, (1, -1), {"go": 1, "back": 1, "main": 1}), True)
        self.assertIs(prices.is_cheapest(ring, (1, -1), {"go": 1, "back": 0, "main": 1}), False)


class Judges(unittest.TestCase):
    def test_what_is_no_cheapest_carrying(self):
        self.assertIs(prices.is_cheapest(NEAR, (1, -1), {"near": 1, "far": 0}), True)
        for value in ({"near": 0, "far": 1}, {"near": True, "far": 0}, {"near": 1}, {"near": 1, "far": 0, "x": 0},
                      {"near": 2, "far": -1}, {"near": 1, "far": None}, [1, 0], None, {}, {"near": 2, "far": 0},
                      {"near": 0, "far": 0}, (("near", 1), ("far", 0))):
            self.assertIs(prices.is_cheapest(NEAR, (1, -1), value), False)
        for value in (None, {"near": 1, "far": 1}, {}):
            self.assertIs(prices.is_cheapest(NEAR, (3, -3), value), False)

    def test_what_are_no_price_heights(self):
        self.assertIs(prices.are_price_heights(NEAR, (2, -2), {"in": -7, "out": -4}), True)
        for value in ({"in": 0, "out": 1}, {"in": 0}, {"in": 0, "out": 3, "x": 0}, {"in": False, "out": 3}, None, {},
                      {"in": 0, "out": None}, {"in": 0, "end": 3}, [0, 3], {"in": "0", "out": 3}):
            self.assertIs(prices.are_price_heights(NEAR, (2, -2), value), False)
        self.assertIs(prices.are_price_heights(NEAR, (3, -3), None), False)

    def test_what_is_no_barring_lot(self):
        self.assertIs(prices.is_barring_lot(NEAR, (3, -3), ("in",)), True)
        for value in (["in"], "in", ("out",), (), ("in", "out"), None, ("in", "in"), ("x",), {"in": 0}):
            self.assertIs(prices.is_barring_lot(NEAR, (3, -3), value), False)
        self.assertIs(prices.is_barring_lot(NEAR, (2, -2), None), False)

    def test_supplies_are_as_little_as_can_be(self):
        dear = Quarter([("near", "in", "out", 1, 2), ("far", "in", "out", 1, 3)], ["in", "out"])
        self.assertEqual((prices.unlike_supply(NEAR, dear), prices.dearer_supply(NEAR, dear)), ((1, -1), (1, -1)))
        self.assertIs(prices.is_unlike_supply(NEAR, dear, (1, -1)), True)
        self.assertIs(prices.is_dearer_supply(NEAR, dear, (1, -1)), True)
        for value in ((2, -2), (-1, 1), [1, -1], (1, -1, 0), None, (True, -1)):
            self.assertIs(prices.is_unlike_supply(NEAR, dear, value), False)
            self.assertIs(prices.is_dearer_supply(NEAR, dear, value), False)
        self.assertIsNone(prices.dearer_supply(dear, NEAR))
        self.assertIs(prices.is_dearer_supply(dear, NEAR, (1, -1)), False)
        self.assertIs(prices.is_unlike_supply(dear, NEAR, (1, -1)), True)


class Nets(unittest.TestCase):
    def test_what_was_sent_goes_another_way_round(self):
        # The cheapest row of all takes the middle street, which two cheapest rows together leave.
        streets = [("go", "in", "a", 1, 1), ("far", "in", "b", 1, 4), ("mid", "a", "b", 1, 0), ("away", "a", "out", 1, 4),
                   ("home", "b", "out", 1, 1)]
        quarter = Quarter(streets, ["in", "out"])
        self.assertEqual(prices.costs(quarter), {(0, 0): 0, (1, -1): 2, (2, -2): 10})
        self.assertEqual(prices.price_list(quarter, Town([]), "in", "out"), [0, 2, 10])
        self.assertEqual(prices.cheapest(quarter, (1, -1)), {"away": 0, "far": 0, "go": 1, "home": 1, "mid": 1})
        self.assertEqual(prices.cheapest(quarter, (2, -2)), {"away": 1, "far": 1, "go": 1, "home": 1, "mid": 0})
        marks = prices.price_heights(quarter, (2, -2))
        self.assertIs(prices.are_price_heights(quarter, (2, -2), marks), True)
        for number, price in ((1, 2), (2, 10), (3, None)):
            self.assertEqual(prices.price_of(Quarter([], ["in", "out"]), Town(streets), "in", "out", number), price)
        self.assertEqual(prices.price_list(Quarter([], ["in", "out"]), Town(streets), "in", "out"), [0, 2, 10])

    def test_numbers_and_places(self):
        for number in (-1, True, "1", None, (1,)):
            with self.assertRaises(InvalidCount) as caught:
                prices.price_of(TWO, HOME, "home", "shop", number)
            self.assertIs(caught.exception.value, number)
        for number, price in ((0, 0), (1, 4), (2, 8), (3, None), (10 ** 29, None)):
            self.assertEqual(prices.price_of(TWO, HOME, "home", "shop", number), price)
        for start, goal in (("home", "home"), ("home", "far"), ("home", None)):
            with self.assertRaises(InvalidPlace) as caught:
                prices.price_list(TWO, HOME, start, goal)
            self.assertIs(caught.exception.value, goal)

    def test_a_town_whose_places_meet_no_gate(self):
        quarter = Quarter([("s", "a", "b", 2, 5), ("t", "b", "c", 2, 1)], ["a", "b", "c"])
        for supply in ((2, -1, -1), (1, 1, -2), (-1, 0, 1), (60, -60, 0), (0, 1, -1)):
            town, start, goal, number = prices.price_town(quarter, supply)
            self.assertEqual(prices.price_of(quarter, town, start, goal, number), prices.cost_of(quarter, supply))
            self.assertNotIn(start, quarter.gates())
            self.assertNotIn(goal, quarter.gates())
            self.assertEqual(number, sum(part for part in supply if part > 0))

    def test_at_the_limits(self):
        chance = random.Random(3)
        began = time.monotonic()
        for _ in range(12):
            gates = list("abc")[:chance.randint(2, 3)]
            one, other = [Quarter([(name, start, end, min(width, 2), length) for name, start, end, width, length in
                                   named_streets(chance, list("abcdefgh"), 6, 20000)], gates) for _ in range(2)]
            fair = Quarter([(name, start, end, 2, chance.randint(0, 20000)) for name, start, end in
                            zip("uvwxyz", "abcabc", "bcacab")], ["a", "b", "c"])
            town = Town([(name, start, end, chance.randint(0, 9), chance.randint(0, 9)) for name, start, end, _, _ in
                         named_streets(chance, ["a", "b", "c", "s", "t", "u"], 10, 9)])
            self.assertEqual(prices.costs(one), prices.costs(one))
            told = prices.unlike_supply(one, other)
            self.assertEqual(told is None, prices.are_price_alike(one, other))
            for supply in list(prices.costs(fair))[::7]:
                marks = prices.price_heights(fair, supply)
                self.assertIs(prices.are_price_heights(fair, supply, marks), True)
            ends = sorted({word for street in town.streets() for word in street[1:3]} | {"a", "b", "c"})
            for start, goal in zip(ends, ends[1:]):
                wanted = prices.price_list(fair, town, start, goal)
                self.assertEqual(prices.price_of(fair, town, start, goal, len(wanted) - 1), wanted[-1])
            self.assertIsNone(prices.cost_of(fair, (60, -60, 0)))
            self.assertIs(prices.is_unlike_supply(fair, fair, (60, -60, 0)), False)
        self.assertLess(time.monotonic() - began, 30)


if __name__ == "__main__":
    unittest.main()
