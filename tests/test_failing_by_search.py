"""[61] to [66]: what is left of small quarters under all shuttings, and all lists to double."""

import itertools
import random
import unittest

from gatequarters import failing
from gatequarters.quarters import Quarter
from tests.support import asked_by_search, balance, lots_by_sight, named_streets, shuttings, sides_by_search
from tests.support import small_quarter, small_town, sublists_of, two_places, with_widths, words_of

GATES = [["a", "b"], ["a", "b", "c"], ["a", "z"], ["a", "b", "c", "d"]]
MEASURE = {0: "most", 1: "shut1", 2: "shut2"}


def quarters(seed, many, most=5):
    """Yield random small quarters."""
    chance = random.Random(seed)
    for _ in range(many):
        yield small_quarter(chance, chance.choice(GATES), most)


def open_names(quarter):
    """Return the names of the open streets."""
    return [street[0] for street in quarter.streets() if street[3] > 0]


def left_with(quarter, lot, names):
    """Return the least width of a side with some streets shut."""
    return min(sides_by_search(with_widths(quarter, {name: 0 for name in names}), lot))[0]


def least_left(quarter, lot, many):
    """Return the least width of a side over all shuttings of at most so many open streets."""
    return min(left_with(quarter, lot, names) for names in sublists_of(open_names(quarter)) if len(names) <= many)


class Left(unittest.TestCase):
    def test_what_is_left_and_the_worst_shuttings(self):
        sizes = []
        for quarter in quarters(1, 60):
            for lot in lots_by_sight(quarter.gates()):
                for many in (0, 1, 2):
                    left = least_left(quarter, lot, many)
                    self.assertEqual(failing.most_left(quarter, lot, many), left)
                    lots = [names for names in sublists_of(open_names(quarter))
                            if len(names) <= many and left_with(quarter, lot, names) == left]
                    fewest = [names for names in lots if len(names) == min(map(len, lots))]
                    sizes.append((many, len(fewest[0])))
                    self.assertIn(failing.worst_shutting(quarter, lot, many), fewest)
                    for names in sublists_of([street[0] for street in quarter.streets()]):
                        judged = failing.is_worst_shutting(quarter, lot, many, names)
                        self.assertIs(judged, names in fewest)
        self.assertEqual(set(sizes), {(0, 0), (1, 0), (1, 1), (2, 0), (2, 1), (2, 2)})

    def test_papers(self):
        for quarter in quarters(2, 60):
            arcs = {street[0]: street[1:] for street in quarter.streets()}
            for lot in lots_by_sight(quarter.gates()):
                for many in (0, 1, 2):
                    paper = failing.failing_paper(quarter, lot, many)
                    names = open_names(quarter)
                    lots = itertools.combinations(names, min(many, len(names)))
                    self.assertEqual([row[0] for row in paper], [list(some) for some in lots])
                    self.assertEqual(paper, sorted(paper, key=lambda row: row[0]))
                    left = failing.most_left(quarter, lot, many)
                    for some, flow in paper:
                        self.assertTrue(all(flow[name] == 0 for name in some))
                        self.assertTrue(all(0 <= flow[name] <= arcs[name][2] for name in arcs))
                        sums = {word: balance(arcs, flow, word) for word in words_of(quarter)}
                        self.assertEqual(sum(sums[gate] for gate in lot), left)
                        for word in sums:
                            sign = 1 if word in lot else -1 if word in quarter.gates() else 0
                            self.assertTrue(sums[word] == 0 or sums[word] * sign > 0)
                    self.assertIs(failing.is_failing_paper(quarter, lot, many, paper), True)

    def test_lowering_and_cutting_streets(self):
        seen = set()
        for quarter in quarters(3, 100):
            for lot in lots_by_sight(quarter.gates()):
                sides = sides_by_search(quarter, lot)
                best = [side for width, side in sides if width == min(sides)[0]]
                lowering = [name for name in open_names(quarter) if left_with(quarter, lot, [name]) < min(sides)[0]]
                cutting = [name for name, start, end, width, _ in quarter.streets()
                           if width > 0 and all(start in side and end not in side for side in best)]
                self.assertEqual(failing.lowering_streets(quarter, lot), lowering)
                self.assertEqual(failing.cutting_streets(quarter, lot), cutting)
                self.assertTrue(set(cutting) <= set(lowering))
                seen.add((bool(cutting), len(lowering) > len(cutting)))
        self.assertEqual(len(seen), 4)


class Losses(unittest.TestCase):
    def test_losses_of_all_lots(self):
        for quarter in quarters(11, 80):
            for many in (0, 1, 2):
                lost = {lot: least_left(quarter, lot, 0) - least_left(quarter, lot, many)
                        for lot in lots_by_sight(quarter.gates())}
                told = failing.losses(quarter, many)
                self.assertEqual(told, lost)
                self.assertEqual(list(told), sorted(told))
                self.assertEqual(failing.loss_by_shutting(quarter, many), max(lost.values()))
                self.assertIs(failing.is_safe(quarter, many), max(lost.values()) == 0)

    def test_drawn_towns_lose_no_more(self):
        chance = random.Random(12)
        seen = set()
        for quarter in quarters(13, 100):
            town = small_town(chance, ["a", "b", "c", "d", "s", "t"], 4)
            start, goal = two_places(chance, quarter.gates(), town)
            for many in (0, 1, 2):
                loss = asked_by_search(quarter, "most", town, start, goal)
                loss -= asked_by_search(quarter, MEASURE[many], town, start, goal)
                greatest = failing.loss_by_shutting(quarter, many)
                self.assertLessEqual(loss, greatest)
                judged = failing.is_losing_town(quarter, many, (town, start, goal))
                self.assertIs(judged, loss == greatest)
                seen.add((many, judged))
        self.assertEqual(len(seen), 5)

    def test_some_town_loses_as_much(self):
        for quarter in quarters(14, 80):
            for many in (0, 1, 2):
                told = failing.losing_town(quarter, many)
                self.assertIs(failing.is_losing_town(quarter, many, told), True)
                loss = asked_by_search(quarter, "most", *told) - asked_by_search(quarter, MEASURE[many], *told)
                self.assertEqual(loss, failing.loss_by_shutting(quarter, many))


class Doubled(unittest.TestCase):
    def test_doubled_streets(self):
        for quarter in quarters(21, 40):
            names = [street[0] for street in quarter.streets()]
            for some in sublists_of(names):
                told = failing.doubled(quarter, some)
                new = [street for street in told.streets() if street[0] not in names]
                free = [word for word in "abcdefghijklmnopqrstuvwxyz" if word not in names]
                self.assertEqual([street[0] for street in new], free[:len(some)])
                right = [street[1:] for name in some for street in quarter.streets() if street[0] == name]
                self.assertEqual([street[1:] for street in new], right)
                self.assertEqual(told, Quarter(quarter.streets() + new, quarter.gates()))

    def test_fewest_doubled(self):
        sizes = []
        for quarter in quarters(22, 60, 5):
            lots = lots_by_sight(quarter.gates())
            before = {lot: min(sides_by_search(quarter, lot))[0] for lot in lots}
            enough = []
            for some in sublists_of(open_names(quarter)):
                stages = shuttings(failing.doubled(quarter, some), 1)
                if all(min(sides_by_search(left, lot))[0] >= before[lot] for left in stages for lot in lots):
                    enough.append(some)
            fewest = [some for some in enough if len(some) == min(map(len, enough))]
            sizes.append(len(fewest[0]))
            self.assertIn(failing.fewest_doubled(quarter), fewest)
            for some in sublists_of([street[0] for street in quarter.streets()]):
                self.assertIs(failing.is_fewest_doubled(quarter, some), some in fewest)
        self.assertGreater(len(set(sizes)), 2)


class Great(unittest.TestCase):
    def quarters(self, many, streets):
        """Yield quarters as great as the document lets."""
        chance = random.Random(51)
        words = list("abcdefgh")
        for _ in range(many):
            yield Quarter(named_streets(chance, words, streets, 20000), words[:4])

    def test_quarters_as_great_as_the_document_lets(self):
        for quarter in self.quarters(12, 10):
            for many in (0, 1, 2):
                for lot in lots_by_sight(quarter.gates()):
                    names = failing.worst_shutting(quarter, lot, many)
                    self.assertIs(failing.is_worst_shutting(quarter, lot, many, names), True)
                    left = left_with(quarter, lot, names)
                    self.assertEqual(failing.most_left(quarter, lot, many), left)
                    self.assertEqual(failing.losses(quarter, many)[lot], left_with(quarter, lot, []) - left)
                    paper = failing.failing_paper(quarter, lot, many)
                    self.assertIs(failing.is_failing_paper(quarter, lot, many, paper), True)
                town = failing.losing_town(quarter, many)
                self.assertIs(failing.is_losing_town(quarter, many, town), True)

    def test_eight_streets_doubled(self):
        for quarter in self.quarters(8, 8):
            fewest = failing.fewest_doubled(quarter)
            self.assertIs(failing.is_fewest_doubled(quarter, fewest), True)
            more = failing.doubled(quarter, fewest)
            for lot in lots_by_sight(quarter.gates()):
                self.assertGreaterEqual(failing.most_left(more, lot, 1), failing.most_left(quarter, lot, 0))


if __name__ == "__main__":
    unittest.main()
