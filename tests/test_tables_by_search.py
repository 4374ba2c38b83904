"""[31] to [36]: tables, sides, lot flows and papers against all of them in small quarters."""

import itertools
import random
import unittest

from gatequarters import tables
from gatequarters.quarters import Quarter
from tests.support import MEASURES, asked_by_search, balance, loads, lots_by_sight, plain, sides_by_search
from tests.support import small_quarter, small_town, sublists_of, table_by_search, two_places, with_widths
from tests.support import words_of

GATES = [["a", "b"], ["w", "z"], ["a", "b", "c"], ["a", "xx", "z"], ["a", "b", "c", "d"]]


def quarters(seed, many, most=6):
    """Yield random small quarters."""
    chance = random.Random(seed)
    for _ in range(many):
        yield small_quarter(chance, chance.choice(GATES), most)


def arcs_of(quarter):
    """Return a dictionary from the names to (start, end, width, length)."""
    return {street[0]: street[1:] for street in quarter.streets()}


def lot_amount(quarter, lot, numbers):
    """Return the amount of a lot flow, None for what is none."""
    sums = {word: balance(arcs_of(quarter), numbers, word) for word in words_of(quarter)}
    for word in sums:
        if word in lot and sums[word] < 0 or word not in quarter.gates() and sums[word] != 0:
            return None
        if word in quarter.gates() and word not in lot and sums[word] > 0:
            return None
    return sum(sums[gate] for gate in lot)


class Sides(unittest.TestCase):
    def test_lots(self):
        for gates in [["a"], ["b", "a"], ["c", "a", "b"], ["d", "a", "c", "b"], list("edcba")]:
            self.assertEqual(tables.lots_of(Quarter([], gates)), lots_by_sight(gates))
        self.assertEqual(tables.lots_of(Quarter([], ["a"])), [])
        self.assertEqual(len(tables.lots_of(Quarter([], list("abcde")))), 30)

    def test_widths_of_all_lists_of_crossings(self):
        for quarter in quarters(1, 40):
            for side in sublists_of(words_of(quarter)):
                leaving = [street[3] for street in quarter.streets() if street[1] in side and street[2] not in side]
                self.assertEqual(tables.side_width(quarter, side), sum(leaving))

    def test_least_and_greatest_sides(self):
        for quarter in quarters(2, 100):
            for lot in lots_by_sight(quarter.gates()):
                sides = sides_by_search(quarter, lot)
                best = [side for width, side in sides if width == min(sides)[0]]
                least, greatest = tables.least_side(quarter, lot), tables.greatest_side(quarter, lot)
                self.assertEqual(least, [word for word in words_of(quarter) if all(word in side for side in best)])
                self.assertEqual(greatest, [word for word in words_of(quarter) if any(word in side for side in best)])
                self.assertIn(least, best)
                self.assertIn(greatest, best)

    def test_narrowest_sides_are_just_the_sides_of_least_width(self):
        for quarter in quarters(3, 40):
            for lot in lots_by_sight(quarter.gates()):
                sides = sides_by_search(quarter, lot)
                for value in sublists_of(words_of(quarter)):
                    right = (min(sides)[0], value) in sides
                    self.assertIs(tables.is_narrowest_side(quarter, lot, value), right)


class Entries(unittest.TestCase):
    def test_tables_are_what_all_sides_shuttings_and_ways_say(self):
        for quarter in quarters(11, 150):
            for measure in MEASURES:
                told = tables.table_of(quarter, measure)
                self.assertEqual(plain(told), plain(table_by_search(quarter, measure)), measure)

    def test_tables_by_their_form(self):
        for quarter in quarters(12, 40):
            for measure in MEASURES:
                told = tables.table_of(quarter, measure)
                gates = quarter.gates()[::-1]
                self.assertIs(tables.is_table(gates, measure, told), True)
                self.assertIs(tables.is_table(gates, measure, {key: told[key] for key in list(told)[::-1]}), True)
                for key in told:
                    for entry in (None, -1, True, False, "1", (1,)):
                        right = entry is None and measure == "way"
                        self.assertIs(tables.is_table(gates, measure, {**told, key: entry}), right)
                    fewer = {other: told[other] for other in told if other != key}
                    self.assertIs(tables.is_table(gates, measure, fewer), False)
                    self.assertIs(tables.is_table(gates, measure, {**fewer, key + ("z",): told[key]}), False)
                self.assertIs(tables.is_table(gates, measure, {**told, (): 0}), False)
                self.assertIs(tables.is_table(gates + ["e"], measure, told), False)

    def test_tables_know_no_other_gates(self):
        self.assertIs(tables.is_table(["a"], "most", {}), True)
        self.assertIs(tables.is_table(["a"], "way", {}), True)
        self.assertIs(tables.is_table(["a"], "way", {("a",): 0}), False)


class LotFlows(unittest.TestCase):
    def test_lot_flows_of_the_greatest_amount(self):
        for quarter in quarters(21, 60, 4):
            found = [numbers for numbers in loads(arcs_of(quarter))]
            for lot in lots_by_sight(quarter.gates()):
                amounts = [lot_amount(quarter, lot, numbers) for numbers in found]
                top = max(amount for amount in amounts if amount is not None)
                self.assertEqual(top, min(sides_by_search(quarter, lot))[0])
                self.assertEqual(lot_amount(quarter, lot, tables.lot_flow(quarter, lot)), top)
                self.assertIn(tables.lot_flow(quarter, lot), found)
                for numbers, amount in zip(found, amounts):
                    self.assertIs(tables.is_lot_flow(quarter, lot, numbers), amount == top)

    def test_numbers_beyond_the_widths_are_no_lot_flow(self):
        for quarter in quarters(22, 40, 4):
            for lot in lots_by_sight(quarter.gates()):
                told = tables.lot_flow(quarter, lot)
                for name in told:
                    for number in (-1, arcs_of(quarter)[name][2] + 1, True, False, None):
                        self.assertIs(tables.is_lot_flow(quarter, lot, {**told, name: number}), False)
                self.assertIs(tables.is_lot_flow(quarter, lot, {**told, "none": 0}), False)


class Papers(unittest.TestCase):
    def test_what_is_returned_is_a_paper(self):
        for quarter in quarters(31, 150):
            for measure in ("most", "shut1", "way", "widest"):
                for key in tables.table_of(quarter, measure):
                    paper = tables.entry_paper(quarter, measure, key)
                    self.assertIs(tables.is_entry_paper(quarter, measure, key, paper), True, (quarter.streets(), key))

    def test_a_paper_holds_the_entry_from_both_sides(self):
        for quarter in quarters(32, 100):
            for lot in lots_by_sight(quarter.gates()):
                flow, side = tables.entry_paper(quarter, "most", lot)
                entry = tables.table_of(quarter, "most")[lot]
                self.assertEqual(lot_amount(quarter, lot, flow), entry)
                self.assertIn((entry, side), sides_by_search(quarter, lot))

    def test_papers_of_most_are_just_flows_and_sides_of_one_number(self):
        for quarter in quarters(33, 25, 3):
            for lot in lots_by_sight(quarter.gates()):
                sides = sides_by_search(quarter, lot)
                for numbers in loads(arcs_of(quarter)):
                    amount = lot_amount(quarter, lot, numbers)
                    for width, side in sides:
                        right = amount == width
                        self.assertIs(tables.is_entry_paper(quarter, "most", lot, (numbers, side)), right)

    def test_papers_of_shut1_bound_every_shutting(self):
        for quarter in quarters(34, 100):
            for lot in lots_by_sight(quarter.gates()):
                (side, name), flows = tables.entry_paper(quarter, "shut1", lot)
                entry = tables.table_of(quarter, "shut1")[lot]
                self.assertEqual(list(flows), [street[0] for street in quarter.streets()])
                if name is None:
                    self.assertEqual((quarter.streets(), flows), ([], {}))
                    continue
                left = with_widths(quarter, {name: 0})
                self.assertIn((entry, side), sides_by_search(left, lot))
                for word, numbers in flows.items():
                    self.assertEqual(numbers[word], 0)
                    self.assertGreaterEqual(lot_amount(quarter, lot, numbers), entry)

    def test_papers_of_shut1_need_not_name_the_very_street_that_was_told(self):
        for quarter in quarters(35, 60, 4):
            for lot in lots_by_sight(quarter.gates()):
                flows = tables.entry_paper(quarter, "shut1", lot)[1]
                entry = tables.table_of(quarter, "shut1")[lot]
                for name in flows:
                    for width, side in sides_by_search(with_widths(quarter, {name: 0}), lot):
                        right = width == entry
                        self.assertIs(tables.is_entry_paper(quarter, "shut1", lot, ((side, name), flows)), right)

    def test_papers_of_ways_with_all_heights(self):
        for quarter in quarters(36, 40, 4):
            words = words_of(quarter)
            if len(words) > 4:
                continue
            for key, entry in tables.table_of(quarter, "way").items():
                way = tables.entry_paper(quarter, "way", key)[0]
                if way is None:
                    continue
                for numbers in itertools.product(range(4), repeat=len(words)):
                    marks = dict(zip(words, numbers))
                    right = marks[key[0]] == 0 and marks[key[1]] == entry and all(
                        marks[end] <= marks[start] + length
                        for _, start, end, width, length in quarter.streets() if width > 0)
                    self.assertIs(tables.is_entry_paper(quarter, "way", key, (way, marks)), right)

    def test_papers_of_widest_ways_and_of_none_with_all_lists(self):
        for quarter in quarters(37, 60):
            for measure in ("way", "widest"):
                for key in tables.table_of(quarter, measure):
                    way = tables.entry_paper(quarter, measure, key)[0]
                    if way is not None and measure == "way":
                        continue
                    bound = 0 if way is None else min(street[3] for street in way)
                    self.assertEqual(bound, 0 if measure == "way" else tables.table_of(quarter, measure)[key])
                    for side in sublists_of(words_of(quarter)):
                        leaving = [street[3] for street in quarter.streets()
                                   if street[1] in side and street[2] not in side]
                        right = key[0] in side and key[1] not in side and max(leaving + [0]) <= bound
                        self.assertIs(tables.is_entry_paper(quarter, measure, key, (way, side)), right)


class Answers(unittest.TestCase):
    def test_answers_by_the_table_are_those_of_the_net(self):
        chance = random.Random(41)
        for quarter in quarters(42, 120, 5):
            town = small_town(chance, ["a", "b", "c", "x", "s"], 5)
            start, goal = two_places(chance, quarter.gates(), town)
            for measure in MEASURES:
                told = tables.answer_by(quarter.gates()[::-1], measure, tables.table_of(quarter, measure),
                                        town, start, goal)
                self.assertEqual(told, asked_by_search(quarter, measure, town, start, goal), measure)

    def test_the_order_of_the_keys_of_a_table_means_nothing(self):
        chance = random.Random(43)
        for quarter in quarters(44, 40, 5):
            town = small_town(chance, ["a", "b", "c", "s"], 5)
            start, goal = two_places(chance, quarter.gates(), town)
            for measure in MEASURES:
                table = tables.table_of(quarter, measure)
                other = {key: table[key] for key in list(table)[::-1]}
                gates = quarter.gates()
                self.assertEqual(tables.answer_by(gates, measure, table, town, start, goal),
                                 tables.answer_by(gates[::-1], measure, other, town, start, goal))


def cut_up(quarter):
    """Return the quarter with three crossings more on each street, which changes no table of lots."""
    streets = []
    for name, start, end, width, length in quarter.streets():
        words = [start] + [name + letter for letter in "klm"] + [end]
        for k in range(4):
            streets.append((name + "stuv"[k], words[k], words[k + 1], width, length if k == 0 else 0))
    return Quarter(streets, quarter.gates())


class Great(unittest.TestCase):
    def test_quarters_of_many_crossings(self):
        for quarter in quarters(52, 40):
            whole = cut_up(quarter)
            for measure in MEASURES:
                self.assertEqual(plain(tables.table_of(whole, measure)), plain(tables.table_of(quarter, measure)))
            for lot in lots_by_sight(quarter.gates())[:3]:
                for measure in ("most", "shut1"):
                    paper = tables.entry_paper(whole, measure, lot)
                    self.assertIs(tables.is_entry_paper(whole, measure, lot, paper), True)
                for side in (tables.least_side(whole, lot), tables.greatest_side(whole, lot)):
                    self.assertIs(tables.is_narrowest_side(whole, lot, side), True)

    def test_quarters_as_great_as_the_document_lets(self):
        chance = random.Random(51)
        words = list("abcdefgh")
        for many in (1, 2, 3, 4, 5):
            for _ in range(8):
                streets = []
                for k in range(14):
                    ends = chance.sample(words, 2)
                    streets.append(("abcdefghijklmn"[k], *ends, chance.choice([0, 1, 20000]), chance.randint(0, 20000)))
                quarter = Quarter(streets, words[:many])
                for measure in ("most", "shut1", "way", "widest"):
                    for key in tables.table_of(quarter, measure):
                        paper = tables.entry_paper(quarter, measure, key)
                        self.assertIs(tables.is_entry_paper(quarter, measure, key, paper), True)


if __name__ == "__main__":
    unittest.main()
