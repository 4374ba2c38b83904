"""[73] to [79]: partings against all partings, tables against all small quarters."""

import itertools
import random
import unittest

from gatequarters import alike, least
from gatequarters.quarters import Quarter
from gatequarters.tables import table_of
from tests.support import lots_by_sight, small_quarter, small_streets, sublists_of, table_by_search, words_of

PAIRS = list(itertools.permutations("abc", 2))
LOTS = lots_by_sight("abc")


def partings(crossings, gates):
    """Yield every parting of some crossings into classes with at most one gate each."""
    if not crossings:
        yield []
        return
    for classes in partings(crossings[:-1], gates):
        for k, part in enumerate(classes):
            if crossings[-1] not in gates or not any(word in gates for word in part):
                yield classes[:k] + [part + [crossings[-1]]] + classes[k + 1:]
        yield classes + [[crossings[-1]]]


def merged_by_sight(quarter, parting):
    """Return the quarter merged by a parting."""
    words = {word: next((gate for gate in part if gate in quarter.gates()), min(part)) for part in parting for word in part}
    return Quarter([(name, words[start], words[end], width, length)
                    for name, start, end, width, length in quarter.streets() if words[start] != words[end]],
                   quarter.gates())


def drawn_quarters(seed, many):
    """Yield random quarters of two to six crossings."""
    chance = random.Random(seed)
    for _ in range(many):
        gates = chance.choice([["a"], ["a", "b"], ["m", "z"], ["a", "b", "c"], ["b", "n", "z"], ["a", "b", "c", "d"]])
        words = sorted(set(gates) | set(chance.choice([["k"], ["a", "x"], ["k", "w", "y"]])))
        yield Quarter(small_streets(chance, words, chance.randint(0, 7), [0, 1, 1, 2, 3], [0, 1]), gates), chance


class Partings(unittest.TestCase):
    def test_least_partings_among_all_partings(self):
        sizes = []
        for quarter, chance in drawn_quarters(1, 80):
            table = table_by_search(quarter, "most")
            alike_ones, others = [], []
            for parting in partings(words_of(quarter), quarter.gates()):
                told = sorted(sorted(part) for part in parting)
                right = table_by_search(merged_by_sight(quarter, told), "most") == table
                (alike_ones if right else others).append(told)
            fewest = min(len(parting) for parting in alike_ones)
            found = least.least_parting(quarter)
            self.assertIn(found, alike_ones)
            self.assertEqual(len(found), fewest)
            for parting in chance.sample(alike_ones, min(20, len(alike_ones))):
                self.assertIs(least.is_least_parting(quarter, parting), len(parting) == fewest)
            for parting in others[:20]:
                self.assertIs(least.is_least_parting(quarter, parting), False)
            sizes.append(len(words_of(quarter)) - fewest)
        for size in (0, 1, 2):
            self.assertGreater(sizes.count(size), 5)

    def test_merged_quarters(self):
        for quarter, chance in drawn_quarters(2, 60):
            every = list(partings(words_of(quarter), quarter.gates()))
            for parting in chance.sample(every, min(10, len(every))):
                told = sorted(sorted(part) for part in parting)
                self.assertEqual(least.merged(quarter, told), merged_by_sight(quarter, told))

    def test_side_partings(self):
        for quarter, _ in drawn_quarters(3, 80):
            sides = [self.least_side_by_search(quarter, lot) for lot in lots_by_sight(quarter.gates())]
            parting = least.side_parting(quarter)
            at = {word: k for k, part in enumerate(parting) for word in part}
            self.assertEqual(parting, sorted(sorted(part) for part in parting))
            self.assertEqual(sorted(at), words_of(quarter))
            for one, other in itertools.combinations(words_of(quarter), 2):
                same = all((one in side) == (other in side) for side in sides)
                self.assertEqual(at[one] == at[other], same)
            # It is alike, too.
            self.assertEqual(table_by_search(least.merged(quarter, parting), "most"), table_by_search(quarter, "most"))

    def least_side_by_search(self, quarter, lot):
        sides = []
        for side in sublists_of(words_of(quarter)):
            if tuple(gate for gate in quarter.gates() if gate in side) == lot:
                leaving = [street[3] for street in quarter.streets() if street[1] in side and street[2] not in side]
                sides.append((sum(leaving), side))
        narrow = [side for width, side in sides if width == min(sides)[0]]
        return [word for word in words_of(quarter) if all(word in side for side in narrow)]


class Tables(unittest.TestCase):
    def cut(self, table, within):
        return table.get(tuple(sorted(within)), 0)

    def test_rows_that_bar(self):
        chance = random.Random(11)
        seen = []
        for _ in range(150):
            gates = list("abcd")[:chance.randint(1, 4)]
            table = {lot: chance.choice([0, 1, 1, 2, 3]) for lot in lots_by_sight(gates)}
            rows = [(lot, other) for lot in table for other in table if lot < other
                    and table[lot] + table[other] < self.cut(table, set(lot) & set(other))
                    + self.cut(table, set(lot) | set(other))]
            self.assertEqual(least.barring_rows(gates[::-1], table), rows)
            seen.append(bool(rows))
        self.assertGreater(seen.count(True), 30)
        self.assertGreater(seen.count(False), 10)

    def test_no_row_bars_the_table_of_a_quarter(self):
        for quarter, _ in drawn_quarters(12, 150):
            table = table_of(quarter, "most")
            self.assertEqual(least.barring_rows(quarter.gates(), table), [])
            if len(quarter.gates()) <= 3:
                self.assertIs(least.can_be(quarter.gates(), table), True)

    def test_all_small_tables_of_three_gates(self):
        # All tables of quarters of three gates alone, with widths up to 2.
        direct = set()
        for widths in itertools.product(range(3), repeat=6):
            table = [sum(width for (start, goal), width in zip(PAIRS, widths) if start in lot and goal not in lot)
                     for lot in LOTS]
            direct.add(tuple(table))
        seen = []
        for numbers in itertools.product(range(3), repeat=6):
            table = dict(zip(LOTS, numbers))
            wanted = least.crossings_wanted(["b", "c", "a"], table)
            made = least.made_quarter(["b", "c", "a"], table)
            seen.append(wanted)
            self.assertIs(least.can_be(["a", "b", "c"], table), wanted is not None)
            self.assertEqual(wanted is None, bool(least.barring_rows(["a", "b", "c"], table)))
            self.assertEqual(wanted == 0, numbers in direct)
            if wanted is None:
                self.assertIsNone(made)
                self.assertIs(least.is_made_quarter(["a", "b", "c"], table, Quarter([], ["a", "b", "c"])), False)
                continue
            self.assertEqual(table_by_search(made, "most"), table)
            self.assertEqual(len(words_of(made)), 3 + wanted)
            self.assertIs(least.is_made_quarter(["a", "b", "c"], table, made), True)
        for wanted in (None, 0, 1):
            self.assertGreater(seen.count(wanted), 20)

    def test_parts_of_all_small_tables(self):
        seen = []
        for numbers in itertools.product(range(4), repeat=6):
            table = dict(zip(LOTS, numbers))
            if least.barring_rows(["a", "b", "c"], table):
                continue
            streets, star = least.parts_of(["c", "b", "a"], table)
            self.assertEqual(sorted(streets), PAIRS)
            self.assertGreaterEqual(min(streets.values()), 0)
            self.assertEqual(self.told(streets, star), table)
            self.assertIs(least.are_parts(["a", "b", "c"], table, (streets, star)), True)
            if star is not None:
                self.assertEqual(sorted(star[1]), ["a", "b", "c"])
                self.assertGreaterEqual(min(star[1].values()), 0)
                self.assertGreater(sum(star[1].values()), 0)
            seen.append(None if star is None else star[0])
        for kind in (None, "out", "in"):
            self.assertGreater(seen.count(kind), 50)

    def told(self, streets, star):
        table = {}
        for lot in LOTS:
            told = sum(number for (start, goal), number in streets.items() if start in lot and goal not in lot)
            if star is not None:
                told += sum(number for gate, number in star[1].items() if (gate in lot) == (star[0] == "out"))
            table[lot] = told
        return table

    def test_parts_are_judged_by_their_sums(self):
        chance = random.Random(13)
        seen = []
        for _ in range(400):
            streets = {pair: chance.choice([0, 0, 1, 2]) for pair in PAIRS}
            star = chance.choice([None, "out", "in"])
            if star is not None:
                star = (star, {gate: chance.choice([0, 1, 2]) for gate in "cab"})
                if sum(star[1].values()) == 0:
                    continue
            table = self.told(streets, star)
            self.assertIs(least.are_parts(["a", "b", "c"], table, (streets, star)), True)
            other = {**streets, chance.choice(PAIRS): chance.choice([0, 1, 2])}
            right = self.told(other, star) == table
            self.assertIs(least.are_parts(["a", "b", "c"], table, (other, star)), right)
            seen.append(right)
        self.assertGreater(seen.count(False), 100)

    def test_least_alike_quarters(self):
        chance = random.Random(14)
        wanted = []
        for _ in range(150):
            gates = chance.choice([["a"], ["a", "b"], ["a", "b", "c"], ["a", "b", "c"]])
            quarter = small_quarter(chance, gates, 7)
            if len(gates) == 3 and chance.random() < 0.4:
                wide = chance.choice([0, 9])
                quarter = Quarter([(gate + "x", gate, "x", chance.choice([wide, 1, 2]), 0) for gate in gates]
                                  + [("x" + gate, "x", gate, chance.choice([9 - wide, 1, 2]), 0) for gate in gates], gates)
            told = least.least_alike(quarter)
            self.assertEqual(told.gates(), gates)
            self.assertEqual(table_by_search(told, "most"), table_by_search(quarter, "most"))
            further = len(words_of(told)) - len(gates)
            self.assertEqual(further, least.crossings_wanted(gates, table_of(quarter, "most")))
            self.assertIs(least.is_least_alike(quarter, told), True)
            right = further == len(words_of(quarter)) - len(gates)
            self.assertIs(least.is_least_alike(quarter, quarter), right)
            wanted.append(further)
        self.assertGreater(wanted.count(0), 30)
        self.assertGreater(wanted.count(1), 10)


class Lone(unittest.TestCase):
    def test_a_pair_for_every_lot(self):
        for many in range(2, 6):
            gates = list("abcde")[:many]
            for lot in lots_by_sight(gates):
                pair = least.lone_pair(gates[::-1], lot)
                self.assertIsInstance(pair, tuple)
                one, other = [table_by_search(quarter, "most") for quarter in pair]
                self.assertEqual([key for key in one if one[key] != other[key]], [lot])
                self.assertEqual([quarter.gates() for quarter in pair], [gates, gates])
                self.assertEqual(alike.unlike_keys(pair[0], pair[1], "most"), [lot])
                for key in lots_by_sight(gates):
                    self.assertIs(least.is_lone_pair(gates, key, pair), key == lot)
                    self.assertIs(least.is_lone_pair(gates, key, pair[::-1]), key == lot)

    def test_pairs_are_judged_by_their_tables(self):
        chance = random.Random(21)
        seen = []
        for _ in range(300):
            gates = list("abc")[:chance.randint(2, 3)]
            one = small_quarter(chance, gates, 4)
            other = Quarter([(name, start, end, max(0, width + chance.choice([0, 0, 1, -1])), length)
                             for name, start, end, width, length in one.streets()], gates)
            unlike = [lot for lot in lots_by_sight(gates) if
                      table_by_search(one, "most")[lot] != table_by_search(other, "most")[lot]]
            for lot in lots_by_sight(gates):
                self.assertIs(least.is_lone_pair(gates, lot, (one, other)), unlike == [lot])
            seen.append(len(unlike))
        for many in (0, 1, 2):
            self.assertGreater(seen.count(many), 15)


if __name__ == "__main__":
    unittest.main()
