"""[43] to [46]: never worse, losses and mending against drawn towns, all lots and all widths."""

import itertools
import random
import unittest

from gatequarters import orders
from gatequarters.quarters import Quarter, Town
from gatequarters.tables import answer_by, table_of
from tests.support import MEASURES, asked_by_search, named_streets, small_quarter, small_town, sublists_of
from tests.support import table_by_search, two_places, with_widths

GATES = [["a", "b"], ["a", "z"], ["a", "b", "c"], ["a", "b", "c", "d"]]


def pairs(seed, many, most=5):
    """Yield two random quarters with the same gates; often one is the other, a little changed."""
    chance = random.Random(seed)
    for _ in range(many):
        gates = chance.choice(GATES)
        elder = small_quarter(chance, gates, most)
        newer = small_quarter(chance, gates, most)
        if chance.random() < 0.6:
            streets = elder.streets()
            for _ in range(2):
                if streets:
                    name, start, end, width, length = streets.pop(chance.randrange(len(streets)))
                    streets.append((name, start, end, chance.randint(0, 4), chance.randint(0, 3)))
            newer = Quarter(streets, gates)
        yield elder, newer


def crossed(seed, many):
    """Yield two random quarters of four gates with streets from gate to gate, the newer one's longer."""
    chance = random.Random(seed)
    for _ in range(many):
        ends = [("a", "b"), ("c", "d")] + chance.sample([("a", "d"), ("b", "c"), ("d", "a")], 1)
        lengths = [chance.randint(0, 3) for _ in ends]
        elder = [("pqr"[k], *ends[k], 1, lengths[k]) for k in range(3)]
        newer = [("pqr"[k], *ends[k], 1, lengths[k] + chance.randint(1, 2)) for k in range(3)]
        yield Quarter(elder, list("abcd")), Quarter(newer, list("abcd"))


def is_worse(measure, value, other):
    """Return whether a value is worse than another one."""
    if measure != "way":
        return value < other
    far = 10 ** 9
    return (far if value is None else value) > (far if other is None else other)


def loss(measure, before, after):
    """Return by how much the second answer is worse, 0 if it is not, None if a way is lost."""
    if not is_worse(measure, after, before):
        return 0
    return None if after is None else abs(after - before)


def steps_towns(gates):
    """Yield the towns of a few streets of length 0 and great width from gate to gate."""
    for many in range(len(gates) - 1):
        for steps in itertools.combinations(itertools.permutations(gates, 2), many):
            yield Town([("uv"[k], *step, 999, 0) for k, step in enumerate(steps)])


class Orders(unittest.TestCase):
    def test_entries_that_are_worse(self):
        seen = []
        for elder, newer in pairs(1, 150):
            for measure in MEASURES:
                before, after = table_by_search(elder, measure), table_by_search(newer, measure)
                worse = [key for key in before if is_worse(measure, after[key], before[key])]
                better = [key for key in before if is_worse(measure, before[key], after[key])]
                self.assertEqual(orders.worse_entries(elder, newer, measure), worse)
                self.assertIs(orders.never_worse(elder, newer, measure), not worse)
                right = {(False, False): "alike", (False, True): "better", (True, False): "worse",
                         (True, True): "mixed"}[(bool(worse), bool(better))]
                self.assertEqual(orders.standing(elder, newer, measure), right)
                seen.append(right)
        for word in ("alike", "better", "worse", "mixed"):
            self.assertGreater(seen.count(word), 20, word)

    def test_drawn_towns(self):
        chance = random.Random(2)
        for elder, newer in pairs(3, 150):
            town = small_town(chance, ["a", "b", "c", "d", "s", "t"], 5)
            start, goal = two_places(chance, elder.gates(), town)
            for measure in MEASURES:
                before = asked_by_search(elder, measure, town, start, goal)
                after = asked_by_search(newer, measure, town, start, goal)
                right = is_worse(measure, after, before)
                self.assertIs(orders.is_worse_town(elder, newer, measure, (town, start, goal)), right)
                self.assertFalse(right and orders.never_worse(elder, newer, measure))
                greatest = orders.greatest_loss(elder, newer, measure)
                if greatest is not None:
                    self.assertLessEqual(loss(measure, before, after), greatest)

    def test_some_town_is_worse_off_unless_it_is_never_worse(self):
        for elder, newer in pairs(4, 150):
            for measure in MEASURES:
                told = orders.worse_town(elder, newer, measure)
                if orders.never_worse(elder, newer, measure):
                    self.assertIsNone(told)
                    continue
                self.assertIs(orders.is_worse_town(elder, newer, measure, told), True)
                before, after = [asked_by_search(quarter, measure, *told) for quarter in (elder, newer)]
                self.assertTrue(is_worse(measure, after, before))

    def test_greatest_losses_are_reached(self):
        more = 0
        drawn = [(pair, MEASURES) for pair in pairs(5, 30)] + [(pair, ["way"]) for pair in crossed(6, 30)]
        for (elder, newer), measures in drawn:
            for measure in measures:
                before, after = table_of(elder, measure), table_of(newer, measure)
                told = orders.greatest_loss(elder, newer, measure)
                entries = [loss(measure, before[key], after[key]) for key in before]
                if None in entries:
                    self.assertIsNone(told)
                    continue
                if measure != "way":
                    self.assertEqual(told, max(entries))
                self.assertIn(told, self.losses(elder, newer, measure))
                more += told > max(entries)
        self.assertGreater(more, 5)

    def losses(self, elder, newer, measure):
        found = set()
        tables = [table_of(quarter, measure) for quarter in (elder, newer)]
        for town in steps_towns(elder.gates()):
            for start, goal in itertools.permutations(elder.gates(), 2):
                answers = [answer_by(elder.gates(), measure, table, town, start, goal) for table in tables]
                found.add(loss(measure, *answers))
        return found


class Mending(unittest.TestCase):
    def without_bound(self, quarter, lot, measure):
        if measure != "way":
            return with_widths(quarter, {name: 10 ** 6 for name in lot})
        streets = [(name, start, end, max(1, width), 0) if name in lot else (name, start, end, width, length)
                   for name, start, end, width, length in quarter.streets()]
        return Quarter(streets, quarter.gates())

    def test_lots_that_mend(self):
        many = 0
        for elder, newer in pairs(11, 100):
            for measure in ("most", "way", "widest"):
                names = [street[0] for street in newer.streets()]
                before = table_of(elder, measure)
                mending = []
                for lot in sublists_of(names):
                    after = table_of(self.without_bound(newer, lot, measure), measure)
                    right = not any(is_worse(measure, after[key], before[key]) for key in before)
                    self.assertIs(orders.is_mending(elder, newer, measure, lot), right)
                    if right:
                        mending.append(lot)
                least = [lot for lot in mending if not any(set(other) < set(lot) for other in mending)]
                self.assertEqual(orders.mending_lots(elder, newer, measure), sorted(least))
                many += len(least) > 1
        self.assertGreater(many, 3)

    def test_least_widths(self):
        seen = {"own": 0, "none": 0, "more": 0}
        for elder, newer in pairs(12, 100):
            for measure in ("most", "shut1", "shut2", "widest"):
                before = table_of(elder, measure)
                for name, _, _, own, _ in newer.streets():
                    enough = None
                    for width in range(40, own - 1, -1):
                        after = table_of(with_widths(newer, {name: width}), measure)
                        if any(after[key] < before[key] for key in before):
                            break
                        enough = width
                    self.assertEqual(orders.least_width(elder, newer, name, measure), enough)
                    seen["none" if enough is None else "own" if enough == own else "more"] += 1
        self.assertGreater(min(seen.values()), 5)


class Great(unittest.TestCase):
    def test_quarters_as_great_as_the_document_lets(self):
        chance = random.Random(51)
        for measure, streets in (("most", 14), ("shut1", 14), ("shut2", 8), ("way", 14), ("widest", 14)):
            for _ in range(6):
                elder, newer = [Quarter(named_streets(chance, list("abcdefgh"), streets, 20000), list("abcde"))
                                for _ in range(2)]
                told = orders.worse_town(elder, newer, measure)
                self.assertIs(orders.is_worse_town(elder, newer, measure, told), told is not None)
                self.assertIs(orders.never_worse(elder, newer, measure), told is None)
                if measure != "way":
                    self.check_width(elder, newer, measure)

    def check_width(self, elder, newer, measure):
        for name in ("a", "b", "c"):
            own = [street[3] for street in newer.streets() if street[0] == name][0]
            width = orders.least_width(elder, newer, name, measure)
            if width is None:
                wide = with_widths(newer, {name: 10 ** 7})
                self.assertIs(orders.never_worse(elder, wide, measure), False)
                continue
            self.assertIs(orders.never_worse(elder, with_widths(newer, {name: width}), measure), True)
            if width > own:
                less = with_widths(newer, {name: width - 1})
                self.assertIs(orders.never_worse(elder, less, measure), False)


if __name__ == "__main__":
    unittest.main()
