"""[67] to [72]: what is glued against wholes made street by street, and their tables by all sides."""

import random
import unittest

from gatequarters import gluing
from gatequarters.quarters import Quarter
from gatequarters.tables import table_of
from tests.glue import arcs_glued, arcs_of, drawn_parts, drawn_table, ends_of_arcs, least_over_squares
from tests.glue import same_shape, whole_by_sight
from tests.support import MEASURES, asked_by_search, most_by_search, net_arcs, place_of, small_net, small_quarter
from tests.support import table_by_search


def part_tables(quarters, measures=tuple(MEASURES)):
    """Return the tables of parts by some measures, from all their sides and walks."""
    return [{measure: table_by_search(quarter, measure) for measure in measures} for quarter in quarters]


class Glued(unittest.TestCase):
    def test_the_whole_has_the_streets_of_all_parts(self):
        chance = random.Random(1)
        for _ in range(150):
            quarters, plan = drawn_parts(chance)
            whole = gluing.glued(quarters, plan)
            self.assertEqual(whole.gates(), sorted(plan[1]))
            self.assertTrue(same_shape(arcs_glued(quarters, plan[0]), arcs_of(whole), plan[1]))

    def test_tables_of_the_whole_from_those_of_the_parts(self):
        chance = random.Random(2)
        for _ in range(120):
            quarters, plan = drawn_parts(chance, 3, 2)
            whole = whole_by_sight(quarters, plan)
            tables = part_tables(quarters)
            for measure in MEASURES:
                told = gluing.glued_table(measure, tables, plan)
                self.assertEqual(list(told.items()), list(table_by_search(whole, measure).items()), (measure, plan))
                self.assertEqual(told, table_of(gluing.glued(quarters, plan), measure))

    def test_tables_of_no_quarter(self):
        chance = random.Random(3)
        for _ in range(200):
            quarters, plan = drawn_parts(chance, 3, 0)
            tables = [{measure: drawn_table(chance, quarter.gates(), measure) for measure in MEASURES}
                      for quarter in quarters]
            for shut, measure in enumerate(["most", "shut1", "shut2"]):
                self.assertEqual(gluing.glued_table(measure, tables, plan), least_over_squares(tables, plan, shut))

    def test_only_the_tables_that_are_needed(self):
        chance = random.Random(4)
        needed = {"most": ["most"], "shut1": ["shut1", "most"], "shut2": ["shut2", "most", "shut1"], "way": ["way"],
                  "widest": ["widest"]}
        for _ in range(30):
            quarters, plan = drawn_parts(chance)
            tables = [{measure: table_of(quarter, measure) for measure in MEASURES} for quarter in quarters]
            for measure in MEASURES:
                few = [{word: part[word] for word in needed[measure]} for part in tables]
                self.assertEqual(gluing.glued_table(measure, few, plan), gluing.glued_table(measure, tables, plan))


class Inside(unittest.TestCase):
    def test_alike_inside_means_wholes_with_equal_tables(self):
        chance = random.Random(11)
        seen = []
        for _ in range(150):
            quarters, plan = drawn_parts(chance, 3, 2)
            at = chance.randrange(len(quarters))
            newer = small_quarter(chance, quarters[at].gates(), 3)
            if chance.random() < 0.5:
                streets = quarters[at].streets()
                newer = Quarter([(name, start, end, max(0, width + chance.choice([-1, 0, 1])), length)
                                 for name, start, end, width, length in streets], quarters[at].gates())
            wholes = [whole_by_sight(parts, plan) for parts in
                      (quarters, quarters[:at] + [newer] + quarters[at + 1:])]
            for measure in MEASURES:
                right = table_by_search(wholes[0], measure) == table_by_search(wholes[1], measure)
                self.assertIs(gluing.alike_inside(quarters, plan, at, newer, measure), right)
                needed = {"shut1": ["most", "shut1"], "shut2": ["most", "shut1", "shut2"]}.get(measure, [measure])
                alone = all(table_of(quarters[at], word) == table_of(newer, word) for word in needed)
                if alone:
                    self.assertIs(right, True)
                seen.append((right, alone))
        for pair in ((True, True), (True, False), (False, False)):
            self.assertGreater(seen.count(pair), 20)


class Rooms(unittest.TestCase):
    def check_room(self, measure, tables, plan, at, key):
        before = gluing.glued_table(measure, tables, plan)
        bound = 3 + sum(number for part in tables for number in part[measure].values() if number is not None)
        fits = []
        for value in list(range(bound + 1)) + ([None] if measure == "way" else []):
            table = {**tables[at][measure], key: value}
            others = tables[:at] + [{measure: table}] + tables[at + 1:]
            if gluing.glued_table(measure, others, plan) == before:
                fits.append(value)
        told = gluing.entry_room(measure, tables, plan, at, key)
        if fits == [None]:
            self.assertEqual(told, (None, None))
            return "none"
        least = min(number for number in fits if number is not None)
        # Beyond the bound nothing changes any more.
        greatest = None if bound in fits else max(number for number in fits if number is not None)
        self.assertEqual(told, (least, greatest), (measure, tables, plan, at, key))
        self.assertEqual([number for number in fits if number is not None],
                         list(range(least, (bound if greatest is None else greatest) + 1)))
        if measure == "way":
            self.assertEqual(None in fits, greatest is None)
        return "open" if greatest is None else ("one" if least == greatest else "many")

    def test_rooms_by_all_values(self):
        chance = random.Random(21)
        seen = []
        for turn in range(150):
            quarters, plan = drawn_parts(chance, 3, 3)
            for measure in ("most", "way", "widest"):
                tables = part_tables(quarters, (measure,))
                if turn % 2:
                    tables = [{measure: drawn_table(chance, quarter.gates(), measure)} for quarter in quarters]
                at = chance.randrange(len(quarters))
                for key in tables[at][measure]:
                    seen.append((measure, self.check_room(measure, tables, plan, at, key)))
        for measure, kinds in (("most", ["open", "one"]), ("way", ["none", "open", "one"]),
                               ("widest", ["many", "open", "one"])):
            for kind in kinds:
                self.assertGreater(seen.count((measure, kind)), 5, (measure, kind))


class Pieces(unittest.TestCase):
    def test_pieces_glued_are_the_quarter(self):
        chance = random.Random(31)
        for _ in range(150):
            quarter = small_quarter(chance, chance.choice([["a"], ["a", "b"], ["a", "b", "c"]]), 5)
            names = [street[0] for street in quarter.streets()]
            if not names:
                continue
            chance.shuffle(names)
            cuts = sorted(chance.sample(range(1, len(names)), chance.randint(0, len(names) - 1)))
            dealing = [names[low:high] for low, high in zip([0] + cuts, cuts + [len(names)])]
            pieces, plan = gluing.pieces_of(quarter, dealing)
            self.check_pieces(quarter, dealing, pieces)
            self.assertEqual(plan, ([{gate: gate for gate in piece.gates()} for piece in pieces], quarter.gates()))
            whole = gluing.glued(pieces, plan)
            self.assertTrue(same_shape(arcs_of(quarter), arcs_of(whole), quarter.gates()))
            for measure in MEASURES:
                tables = [{word: table_of(piece, word) for word in MEASURES} for piece in pieces]
                self.assertEqual(gluing.glued_table(measure, tables, plan), table_of(quarter, measure))

    def check_pieces(self, quarter, dealing, pieces):
        self.assertIsInstance(pieces, list)
        for names, piece in zip(dealing, pieces, strict=True):
            self.assertEqual(piece.streets(), [street for street in quarter.streets() if street[0] in names])
            own = ends_of_arcs(arcs_of(piece))
            beyond = [word for street in quarter.streets() if street[0] not in names for word in street[1:3]]
            gates = [word for word in own if word in quarter.gates() or word in beyond]
            self.assertEqual(piece.gates(), sorted(gates) if gates else [min(own)])


class Net(unittest.TestCase):
    def test_all_streets_of_the_net_between_some_of_its_places(self):
        chance = random.Random(41)
        for _ in range(150):
            quarter, town = small_net(chance)
            arcs = net_arcs(quarter, town)
            words = sorted(set(quarter.gates()) | {word for street in town.streets() for word in street[1:3]})
            places = chance.sample(words, chance.randint(1, min(5, len(words))))
            whole = gluing.with_town(quarter, town, places)
            self.assertEqual(whole.gates(), sorted(places))
            fixed = {place_of(quarter, word): word for word in places}
            plain = [(fixed.get(arc[0], arc[0]), fixed.get(arc[1], arc[1])) + arc[2:] for arc in arcs.values()]
            self.assertTrue(same_shape(plain, arcs_of(whole), places))

    def test_what_the_town_sees_stands_in_its_tables(self):
        chance = random.Random(42)
        for _ in range(80):
            quarter, town = small_net(chance)
            words = sorted(set(quarter.gates()) | {word for street in town.streets() for word in street[1:3]})
            places = chance.sample(words, chance.randint(2, min(5, len(words)))) if len(words) > 1 else words
            whole = gluing.with_town(quarter, town, places)
            for start in places:
                for goal in places:
                    if start != goal:
                        self.check_seen(quarter, town, whole, start, goal)

    def check_seen(self, quarter, town, whole, start, goal):
        for measure in ("way", "widest"):
            self.assertEqual(table_of(whole, measure)[(start, goal)],
                             asked_by_search(quarter, measure, town, start, goal))
        lots = [number for lot, number in table_of(whole, "most").items() if start in lot and goal not in lot]
        self.assertEqual(min(lots), most_by_search(quarter, town, start, goal))


if __name__ == "__main__":
    unittest.main()
