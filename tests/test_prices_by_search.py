"""[80] to [86]: prices against all carryings, all flows, all supplies and drawn towns."""

import itertools
import random
import unittest

from gatequarters import prices
from gatequarters.quarters import Quarter, Town
from gatequarters.tables import table_of
from tests.support import balance, flows_by_search, loads, lots_by_sight, narrow_net, net_arcs, small_streets
from tests.support import table_by_search, two_places, words_of


def carryings(quarter):
    """Return a dictionary from all supplies that have carryings to the lists of (cost, carrying)."""
    arcs = {street[0]: street[1:] for street in quarter.streets()}
    inner = [word for word in words_of(quarter) if word not in quarter.gates()]
    found = {}
    for load in loads(arcs):
        if all(balance(arcs, load, word) == 0 for word in inner):
            supply = tuple(balance(arcs, load, gate) for gate in quarter.gates())
            cost = sum(load[name] * arcs[name][3] for name in load)
            found.setdefault(supply, []).append((cost, load))
    return found


def costs_by_search(quarter):
    """Return the dictionary from all supplies that have a carrying, ascending, to their least costs."""
    found = carryings(quarter)
    return {supply: min(cost for cost, _ in found[supply]) for supply in sorted(found)}


def drawn_quarter(chance, gates, most=4):
    """Return a random quarter of at most so many streets of widths up to 2."""
    words = sorted(set(gates) | set(chance.choice([["a", "b"], ["x"], ["x", "y"]])))
    return Quarter(small_streets(chance, words, chance.randint(0, most), [0, 1, 1, 2], [0, 1, 1, 2, 5]), gates)


def drawn_gates(chance):
    return chance.choice([["a", "b"], ["a", "b"], ["a", "b", "c"], ["a"]])


def nudged(chance, quarter):
    """Return a quarter with some number of a street changed."""
    streets = [list(street) for street in quarter.streets()]
    if streets:
        street = chance.choice(streets)
        at = chance.choice([3, 4])
        street[at] = chance.choice([0, 1, 2]) if at == 3 else max(0, street[at] + chance.choice([-1, 1]))
    return Quarter([tuple(street) for street in streets], quarter.gates())


def drawn_supplies(chance, quarter, many):
    """Yield random supplies of a quarter."""
    for _ in range(many):
        numbers = [chance.randint(-3, 3) for _ in quarter.gates()[1:]]
        yield tuple(numbers + [-sum(numbers)])


def brought(supply):
    return sum(number for number in supply if number > 0)


def by_other_streets(quarter):
    """Return a quarter that no town tells from another one: two streets for one, and words exchanged."""
    streets = []
    for name, start, end, width, length in quarter.streets():
        halves = [1] * width if width else [0]
        streets += [("p" * (k + 1) + name, start, end, half, length) for k, half in enumerate(halves)]
    return Quarter(streets, quarter.gates())


class Costs(unittest.TestCase):
    def test_carryings_and_heights_of_all_supplies(self):
        chance = random.Random(1)
        for _ in range(120):
            quarter = drawn_quarter(chance, drawn_gates(chance))
            found, told = carryings(quarter), costs_by_search(quarter)
            self.assertEqual(list(prices.costs(quarter).items()), list(told.items()))
            for supply in told:
                self.check_supply(quarter, supply, told[supply], found[supply], chance)

    def check_supply(self, quarter, supply, cost, found, chance):
        self.assertEqual(prices.cost_of(quarter, supply), cost)
        carrying = prices.cheapest(quarter, supply)
        self.assertIn((cost, carrying), found)
        self.assertEqual(list(carrying), sorted(carrying))
        for other, load in found[:10]:
            self.assertIs(prices.is_cheapest(quarter, supply, load), other == cost)
        marks = prices.price_heights(quarter, supply)
        self.assertEqual(list(marks), words_of(quarter))
        self.assertEqual(self.held_up(quarter, supply, marks), cost)
        self.assertIs(prices.are_price_heights(quarter, supply, marks), True)
        for _ in range(5):
            drawn = {word: chance.randint(-3, 4) for word in words_of(quarter)[::-1]}
            held = self.held_up(quarter, supply, drawn)
            self.assertLessEqual(held, cost)
            self.assertIs(prices.are_price_heights(quarter, supply, drawn), held == cost)
        self.assertIsNone(prices.barring_lot(quarter, supply))

    def held_up(self, quarter, supply, marks):
        told = -sum(number * marks[gate] for number, gate in zip(supply, quarter.gates()))
        for _, start, end, width, length in quarter.streets():
            told += width * min(0, length + marks[start] - marks[end])
        return told

    def test_supplies_that_no_carrying_has(self):
        chance = random.Random(2)
        seen = []
        for _ in range(120):
            quarter = drawn_quarter(chance, drawn_gates(chance))
            told, table = costs_by_search(quarter), table_by_search(quarter, "most")
            for supply in drawn_supplies(chance, quarter, 8):
                bars = [lot for lot in table if sum(number for number, gate in zip(supply, quarter.gates())
                                                    if gate in lot) > table[lot]]
                seen.append(bool(bars))
                self.assertEqual(supply in told, not bars)
                self.assertEqual(prices.cost_of(quarter, supply), told.get(supply))
                for lot in table:
                    self.assertIs(prices.is_barring_lot(quarter, supply, lot), lot in bars)
                if bars:
                    self.assertIn(prices.barring_lot(quarter, supply), bars)
                    self.assertIsNone(prices.cheapest(quarter, supply))
                    self.assertIsNone(prices.price_heights(quarter, supply))
                    marks = {word: 0 for word in words_of(quarter)}
                    self.assertIs(prices.are_price_heights(quarter, supply, marks), False)
                    load = {street[0]: street[3] for street in quarter.streets()}
                    self.assertIs(prices.is_cheapest(quarter, supply, load), False)
                else:
                    self.assertIsNone(prices.barring_lot(quarter, supply))
        self.assertGreater(seen.count(True), 200)
        self.assertGreater(seen.count(False), 100)


class Nets(unittest.TestCase):
    def test_prices_in_nets_by_all_flows(self):
        chance = random.Random(11)
        lengths = []
        for _ in range(150):
            quarter, town, start, goal = narrow_net(chance)
            arcs = net_arcs(quarter, town)
            told = {}
            for amount, flow in flows_by_search(quarter, town, start, goal):
                cost = sum(number * arcs[name][3] for name, number in flow.items())
                told[amount] = min(cost, told.get(amount, cost))
            wanted = [told[amount] for amount in range(max(told) + 1)]
            self.assertEqual(prices.price_list(quarter, town, start, goal), wanted)
            for number in range(len(wanted) + 2):
                price = wanted[number] if number < len(wanted) else None
                self.assertEqual(prices.price_of(quarter, town, start, goal, number), price)
            steps = [after - before for before, after in zip(wanted, wanted[1:])]
            self.assertEqual(steps, sorted(steps))
            lengths.append(len(wanted))
        for length in (1, 2, 3):
            self.assertGreater(lengths.count(length), 10)

    def test_towns_that_ask_for_a_supply(self):
        chance = random.Random(12)
        for _ in range(100):
            quarter = drawn_quarter(chance, chance.choice([["a", "b"], ["a", "b", "c"], ["a", "z"], ["b", "c", "d"]]))
            for supply in drawn_supplies(chance, quarter, 4):
                if brought(supply) == 0:
                    continue
                town, start, goal, number = prices.price_town(quarter, supply)
                self.assertIsInstance(town, Town)
                for other in [quarter] + [drawn_quarter(chance, quarter.gates()) for _ in range(4)]:
                    self.assertEqual(prices.price_of(other, town, start, goal, number),
                                     costs_by_search(other).get(supply))


class Pairs(unittest.TestCase):
    def pairs(self, seed, many):
        chance = random.Random(seed)
        for _ in range(many):
            one = drawn_quarter(chance, drawn_gates(chance))
            kind = chance.random()
            other = nudged(chance, one) if kind < 0.5 else drawn_quarter(chance, one.gates())
            yield (one, by_other_streets(one) if kind > 0.9 else other, chance)

    def least_of(self, supplies):
        least = min([brought(supply) for supply in supplies], default=None)
        return [supply for supply in supplies if brought(supply) == least]

    def check_judge(self, judge, one, other, least, supplies):
        for supply in supplies:
            self.assertIs(judge(one, other, supply), supply in least)

    def test_unlike_and_dearer_supplies(self):
        seen = []
        for one, other, chance in self.pairs(21, 250):
            before, after = costs_by_search(one), costs_by_search(other)
            both = sorted(set(before) | set(after))
            unlike = self.least_of([supply for supply in both if before.get(supply) != after.get(supply)])
            dearer = self.least_of([supply for supply in before
                                    if supply not in after or after[supply] > before[supply]])
            self.assertIs(prices.are_price_alike(one, other), not unlike)
            self.assertIs(prices.is_never_dearer(one, other), not dearer)
            for told, least in ((prices.unlike_supply(one, other), unlike), (prices.dearer_supply(one, other), dearer)):
                if least:
                    self.assertIn(told, least)
                else:
                    self.assertIsNone(told)
            asked = both + list(drawn_supplies(chance, one, 5))
            self.check_judge(prices.is_unlike_supply, one, other, unlike, asked)
            self.check_judge(prices.is_dearer_supply, one, other, dearer, asked)
            seen.append((bool(unlike), bool(dearer)))
        for pair in ((False, False), (True, False), (True, True)):
            self.assertGreater(seen.count(pair), 20)

    def test_no_town_tells_price_alike_quarters_apart_and_none_pays_more_than_told(self):
        seen = []
        for one, other, chance in self.pairs(22, 250):
            alike, cheaper = prices.are_price_alike(one, other), prices.is_never_dearer(one, other)
            seen.append((alike, cheaper))
            if alike:
                for measure in ("most", "way"):
                    self.assertEqual(table_of(one, measure), table_of(other, measure))
            for _ in range(4):
                streets = small_streets(chance, one.gates() + ["s", "t"], chance.randint(1, 6), [0, 1, 2, 9], [0, 1, 3])
                town = Town(streets)
                start, goal = two_places(chance, one.gates(), town)
                before, after = [prices.price_list(quarter, town, start, goal) for quarter in (one, other)]
                if alike:
                    self.assertEqual(before, after)
                if cheaper:
                    self.assertLessEqual(len(before), len(after))
                    self.assertTrue(all(new <= old for old, new in zip(before, after)))
            if not alike and len(one.gates()) > 1:
                self.check_noticed(one, other)
        for pair in ((True, True), (False, True), (False, False)):
            self.assertGreater(seen.count(pair), 20)

    def check_noticed(self, one, other):
        town, start, goal, number = prices.price_town(one, prices.unlike_supply(one, other))
        told = [prices.price_of(quarter, town, start, goal, number) for quarter in (one, other)]
        self.assertNotEqual(told[0], told[1])
        dearer = prices.dearer_supply(one, other)
        if dearer is not None:
            town, start, goal, number = prices.price_town(one, dearer)
            before, after = [prices.price_of(quarter, town, start, goal, number) for quarter in (one, other)]
            self.assertTrue(after is None or after > before)

    def test_lots_are_lots(self):
        quarter = Quarter([("s", "a", "b", 1, 1)], ["a", "b", "c"])
        self.assertEqual(sorted(table_of(quarter, "most")), lots_by_sight("abc"))
        bars = [lot for lot in itertools.chain(lots_by_sight("abc"), [(), ("a", "b", "c")])
                if prices.is_barring_lot(quarter, (2, -1, -1), lot)]
        self.assertEqual(bars, [("a",), ("a", "b")])


if __name__ == "__main__":
    unittest.main()
