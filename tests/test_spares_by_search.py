"""[54] to [60]: spare and wide lists, lots of changes, sure and dead streets, by all lists."""

import random
import unittest

from gatequarters import spares
from gatequarters.quarters import Quarter, changed
from gatequarters.tables import table_of
from tests.support import MEASURES, named_streets, small_quarter, small_streets, sublists_of, walks, with_widths

GATES = [["a"], ["a", "b"], ["a", "b", "c"], ["a", "z"], ["a", "b", "c", "d"]]


def quarters(seed, many, most=5):
    """Yield random small quarters."""
    chance = random.Random(seed)
    for _ in range(many):
        yield small_quarter(chance, chance.choice(GATES), most)


def open_names(quarter):
    """Return the names of the open streets."""
    return [street[0] for street in quarter.streets() if street[3] > 0]


def greatest(lots):
    """Return those of some lots that lie in no other one, ascending."""
    return sorted(lot for lot in lots if not any(set(lot) < set(other) for other in lots))


def least(lots):
    """Return those of some lots within which no other one lies, ascending."""
    return sorted(lot for lot in lots if not any(set(other) < set(lot) for other in lots))


def random_change(chance, quarter, words):
    """Return a random change that often fits."""
    names = [street[0] for street in quarter.streets()] + ["e"]
    name = chance.choice(names)
    ends = chance.sample(words, 2)
    return chance.choice([
        ("out", name), ("turn", name), ("width", name, chance.randint(0, 3)), ("length", name, chance.randint(0, 3)),
        ("put", (chance.choice("abefg"), ends[0], ends[1], chance.randint(0, 2), chance.randint(0, 2))),
    ])


class Lists(unittest.TestCase):
    def test_shut_and_widened(self):
        for quarter in quarters(1, 40):
            names = [street[0] for street in quarter.streets()]
            for some in sublists_of(names):
                self.assertEqual(spares.with_shut(quarter, some), with_widths(quarter, {name: 0 for name in some}))
                width = sum(street[3] for street in quarter.streets()) + 1
                self.assertEqual(spares.with_widened(quarter, some),
                                 with_widths(quarter, {name: width for name in some}))

    def test_spare_and_harmful_lists(self):
        sizes = []
        for quarter in quarters(2, 80):
            names = open_names(quarter)
            for measure in MEASURES:
                own = table_of(quarter, measure)
                spare, harmful = [], []
                for some in sublists_of(names):
                    right = table_of(with_widths(quarter, {name: 0 for name in some}), measure) == own
                    self.assertIs(spares.is_spare(quarter, measure, some), right)
                    (spare if right else harmful).append(some)
                self.assertEqual(spares.spare_lots(quarter, measure), greatest(spare))
                self.assertEqual(spares.harmful_lots(quarter, measure), least(harmful))
                unspared = [name for name in names if not any(name in some for some in spare)]
                self.assertEqual(spares.unspared_streets(quarter, measure), unspared)
                sizes.append((len(greatest(spare)) > 1, len(least(harmful)) > 1, bool(unspared)))
        self.assertGreater(len(set(sizes)), 4)

    def test_wide_lists(self):
        sizes = []
        for quarter in quarters(3, 60):
            names = [street[0] for street in quarter.streets()]
            for measure in MEASURES:
                own = table_of(quarter, measure)
                wide = []
                for some in sublists_of(names):
                    right = table_of(with_widths(quarter, {name: 10 ** 6 for name in some}), measure) == own
                    self.assertIs(spares.is_wide(quarter, measure, some), right)
                    if right:
                        wide.append(some)
                self.assertEqual(spares.wide_lots(quarter, measure), greatest(wide))
                sizes.append(len(greatest(wide)))
        self.assertGreater(sum(size > 1 for size in sizes), 5)

    def test_sure_streets(self):
        seen = 0
        for quarter in quarters(4, 80):
            sure = [name for name in open_names(quarter) if all(
                table_of(with_widths(quarter, {name: 0}), measure) != table_of(quarter, measure)
                for measure in ("way", "widest", "most"))]
            self.assertEqual(spares.sure_streets(quarter), sure)
            seen += bool(sure)
        self.assertGreater(seen, 10)

    def test_dead_streets(self):
        seen = 0
        for quarter in quarters(5, 150, 6):
            arcs = {street[0]: street[1:] for street in quarter.streets()}
            alive = set()
            for gate in quarter.gates():
                for row, at in walks(arcs, gate, 6):
                    if at in quarter.gates() and at != gate:
                        alive |= set(row)
            dead = [name for name in open_names(quarter) if name not in alive]
            self.assertEqual(spares.dead_streets(quarter), dead)
            seen += bool(dead)
            if len(quarter.gates()) > 1:
                for measure in MEASURES[:1] + MEASURES[3:]:
                    self.assertIs(spares.is_spare(quarter, measure, dead), True)
                    self.assertIs(spares.is_wide(quarter, measure, dead), True)
        self.assertGreater(seen, 10)


class Changes(unittest.TestCase):
    def stages(self, quarter, changes):
        """Return the lots of positions with their quarters, None where one does not fit."""
        found = []
        for lot in sublists_of(range(len(changes))):
            after = quarter
            for at in lot:
                try:
                    after = None if after is None else changed(after, changes[at])
                except ValueError:
                    after = None
            found.append((lot, after))
        return found

    def test_lots_of_changes(self):
        chance = random.Random(11)
        seen = {"noticed": 0, "unnoticed": 0, "none": 0, "again": 0}
        for _ in range(400):
            gates = chance.choice(GATES[1:])
            quarter = Quarter(small_streets(chance, gates + ["x"], 3, [0, 1, 2], [0, 1, 2]), gates)
            changes = [random_change(chance, quarter, gates + ["x"]) for _ in range(chance.randint(0, 4))]
            measure = chance.choice(MEASURES)
            own = table_of(quarter, measure)
            noticed, unnoticed = [], []
            for lot, after in self.stages(quarter, changes):
                self.assertEqual(spares.lot_quarter(quarter, changes, lot), after)
                if after is None:
                    seen["none"] += 1
                else:
                    (unnoticed if table_of(after, measure) == own else noticed).append(lot)
            self.assertEqual(spares.noticed_lots(quarter, changes, measure), least(noticed))
            self.assertEqual(spares.unnoticed_lots(quarter, changes, measure), greatest(unnoticed))
            seen["noticed"] += len(least(noticed)) > 1
            seen["unnoticed"] += len(greatest(unnoticed)) > 1
            seen["again"] += any(set(lot) < set(other) for lot in noticed for other in unnoticed)
        self.assertGreater(min(seen.values()), 5)


class Great(unittest.TestCase):
    def quarters(self, many, streets):
        """Yield quarters as great as the document lets."""
        chance = random.Random(51)
        words = list("abcdefgh")
        for _ in range(many):
            yield Quarter(named_streets(chance, words, streets, 20000), words[:4])

    def test_quarters_as_great_as_the_document_lets(self):
        for quarter in self.quarters(4, 10):
            names = open_names(quarter)
            for measure in ("most", "shut1", "way", "widest"):
                for lots, judge, every in (
                    (spares.spare_lots(quarter, measure), spares.is_spare, names),
                    (spares.wide_lots(quarter, measure), spares.is_wide, [street[0] for street in quarter.streets()]),
                ):
                    self.assertEqual(lots, greatest(lots))
                    for lot in lots:
                        self.assertIs(judge(quarter, measure, lot), True)
                        for name in every:
                            if name not in lot:
                                self.assertIs(judge(quarter, measure, sorted(lot + [name])), False)
                for lot in spares.harmful_lots(quarter, measure):
                    self.assertIs(spares.is_spare(quarter, measure, lot), False)
                    for name in lot:
                        fewer = [word for word in lot if word != name]
                        self.assertIs(spares.is_spare(quarter, measure, fewer), True)


if __name__ == "__main__":
    unittest.main()
