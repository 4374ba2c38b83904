"""[93] to [102]: drawn rows of commands, against a plain second city that is led step by step."""

import copy
import random
import unittest

from gatequarters import city as cities
from gatequarters.city import City
from gatequarters.errors import GateError
from gatequarters.quarters import Quarter, Town
from gatequarters.tables import table_of
from tests.glue import arcs_glued, arcs_of, same_shape
from tests.plain_city import KINDS, PROMISED, PlainCity, drawn_command, drawn_gates, drawn_quarter, table_of_whole
from tests.site import is_worse
from tests.support import asked_by_search, lots_by_sight, plain, small_town, two_places


class Stop(Exception):
    """Leaves a block."""


def carried_out(city, command):
    """Return what a method tells, or the error that it raises, as text."""
    try:
        return plain(getattr(city, command[0])(*command[1:]))
    except GateError as error:
        return f"{type(error).__name__} {plain(getattr(error, 'value', None))}"


class Steps(unittest.TestCase):
    def same(self, city, second):
        self.assertEqual(city.spots(), sorted(second.lying))
        for spot in second.lying:
            self.assertEqual(city.quarter(spot), second.lying[spot])
        wanted = [(measure, kind, {spot: quarters[spot] for spot in sorted(quarters)})
                  for measure, kind, quarters in second.promised]
        self.assertEqual(plain(city.promises()), plain(wanted))
        self.assertEqual(plain(city.log()), plain([command for command, _ in second.past]))

    def lead(self, city, second, chance, many, depth):
        """Carry out random commands and blocks on both cities, and compare them behind each."""
        for _ in range(many):
            kind = chance.random()
            if depth and kind < 0.15:
                self.block(city, second, chance, depth)
            elif kind < 0.2:
                self.copies(city, second, chance)
            else:
                command = drawn_command(chance, second)
                passed = copy.deepcopy(command)
                self.seen.append((command[0], carried_out(city, passed)))
                self.assertEqual(self.seen[-1][1], carried_out(second, command), command)
                for thing in passed:
                    if isinstance(thing, list):
                        thing.clear()
            self.same(city, second)

    def block(self, city, second, chance, depth):
        """Lead both cities through a block, or an attempt, that ends well or by an error."""
        twin = copy.deepcopy(second)
        way = chance.randrange(4)
        token = object()

        def action(given):
            self.assertIs(given, city)
            self.lead(given, twin, chance, chance.randint(1, 4), depth - 1)
            if way in (1, 3):
                raise Stop()
            return token

        try:
            if way < 2:
                with city.trial() as name:
                    action(name)
            else:
                self.assertIs(city.attempt(action), token)
        except Stop:
            self.assertIn(way, (1, 3))
        # The second city was not touched; whatever the block did is gone.
        self.same(city, second)
        self.undone_and_made_again(city, second)

    def undone_and_made_again(self, city, second):
        with city.trial():
            twin = copy.deepcopy(second)
            for word in ["redo"] * (len(twin.ahead) + 1) + ["undo"] * 3:
                self.assertEqual(carried_out(city, (word,)), carried_out(twin, (word,)))
                self.same(city, twin)

    def copies(self, city, second, chance):
        """Lead a copy away; the first city stays as it is."""
        other, twin = city.copy(), copy.deepcopy(second)
        self.assertIsNot(other, city)
        self.same(other, twin)
        for _ in range(3):
            command = drawn_command(chance, twin)
            self.assertEqual(carried_out(other, copy.deepcopy(command)), carried_out(twin, command))
        self.same(other, twin)
        self.same(city, second)

    def test_drawn_rows_of_commands(self):
        chance = random.Random(1)
        self.seen = []
        for _ in range(200):
            gates = chance.choice([["a", "b"], ["b", "a"], ["a", "b", "c"], ["a"], ["a", "far"]])
            city, second = City(gates), PlainCity(gates)
            self.assertEqual(city.gates(), sorted(gates))
            self.lead(city, second, chance, 18, 3)
            self.check_log(city, second)
        words = [word for word, _ in self.seen]
        for word in ("promise", "put", "exchange", "force", "change", "take", "release", "undo", "redo", "barring",
                     "kept_widths", "kept_lengths", "spare_streets", "broken"):
            self.assertGreater(words.count(word), 20, word)
        told = [answer.split(" ")[0] for _, answer in self.seen]
        for answer in ("Refused", "InvalidSpot", "Unlike", "InvalidChange", "InvalidName", "NothingToUndo",
                       "NothingToRedo", "InvalidCount"):
            self.assertGreater(told.count(answer), 3, answer)

    def check_log(self, city, second):
        """A log that is replayed leads a new city to the same end, and may be made behind another one."""
        again = cities.replayed(City(city.gates()), city.log())
        self.same(again, second)
        before = plain(city)
        with city.trial():
            self.undone_and_made_again(cities.replayed(city, []), second)
        self.assertEqual(plain(city), before)


class Wholes(unittest.TestCase):
    def cities(self, seed, many):
        """Yield random cities with a promise and some forced quarters."""
        chance = random.Random(seed)
        for _ in range(many):
            city = City(chance.choice([["a", "b"], ["a", "b", "c"], ["a", "far"], ["a"]]))
            for _ in range(chance.randint(0, 3)):
                city.put(drawn_quarter(chance, drawn_gates(chance)))
            yield city, chance

    def lying(self, city):
        return {spot: city.quarter(spot) for spot in city.spots()}

    def test_wholes_and_their_tables(self):
        for city, _ in self.cities(11, 120):
            whole = city.whole()
            parts = [city.quarter(spot) for spot in city.spots()]
            self.assertEqual(whole.gates(), city.gates())
            arcs = arcs_glued(parts, [{gate: gate for gate in part.gates()} for part in parts])
            self.assertTrue(same_shape(arcs, arcs_of(whole), city.gates()))
            for measure in PROMISED:
                self.assertEqual(table_of(whole, measure), table_of_whole(city.gates(), self.lying(city), measure))

    def test_witnesses(self):
        seen = []
        for city, chance in self.cities(12, 600):
            before = self.lying(city)
            for measure in PROMISED:
                for kind in KINDS:
                    city.promise(measure, kind)
            for spot in city.spots():
                city.force(spot, drawn_quarter(chance, city.quarter(spot).gates()))
            for at, (measure, kind, quarters) in enumerate(city.promises()):
                self.assertEqual(quarters, before)
                told = city.witness(at)
                seen.append((measure, kind, told is None))
                self.assertEqual(told is None, at not in city.broken())
                if told is not None:
                    self.assertIs(self.is_witness(city, measure, kind, before, told), True)
                    self.assertIs(city.is_witness(at, told), True)
                if len(city.gates()) > 1:
                    town = small_town(chance, city.gates() + ["s"], 3)
                    start, goal = two_places(chance, city.gates(), town)
                    right = self.is_witness(city, measure, kind, before, (town, start, goal))
                    self.assertIs(city.is_witness(at, (town, start, goal)), right)
        for measure in PROMISED:
            for kind in KINDS:
                self.assertGreater(seen.count((measure, kind, False)), 10, (measure, kind))

    def is_witness(self, city, measure, kind, before, told):
        copied = City(city.gates())
        for quarter in before.values():
            copied.put(quarter)
        old, new = [asked_by_search(one.whole(), measure, *told) for one in (copied, city)]
        return old != new if kind == "alike" else is_worse(measure, new, old)

    def test_a_quarter_that_is_alike_is_barred_by_no_promise(self):
        chance = random.Random(13)
        seen = 0
        for city, _ in self.cities(14, 150):
            for measure in PROMISED:
                city.promise(measure, "alike")
            for spot in city.spots():
                quarter = city.quarter(spot)
                other = Quarter([street[:3] + (max(0, street[3] + chance.choice([0, 0, 1])), street[4] + chance.choice([0, 1]))
                                 for street in quarter.streets()], quarter.gates())
                barring = city.barring(spot, other)
                for at, measure in enumerate(PROMISED):
                    words = ["most", "shut1"] if measure == "shut1" else [measure]
                    if all(table_of(quarter, word) == table_of(other, word) for word in words):
                        self.assertNotIn(at, barring)
                        seen += other != quarter
        self.assertGreater(seen, 50)

    def test_towns_that_tell_two_cities_apart(self):
        chance = random.Random(15)
        seen = []
        for one, _ in self.cities(16, 300):
            other = one.copy()
            for spot in one.spots()[:chance.randint(0, 3)]:
                other.force(spot, drawn_quarter(chance, one.quarter(spot).gates()))
            for measure in PROMISED:
                told = cities.told_apart(one, other, measure)
                tables = [table_of_whole(city.gates(), self.lying(city), measure) for city in (one, other)]
                seen.append(told is None)
                self.assertEqual(told is None, tables[0] == tables[1])
                if told is not None:
                    self.assertIsInstance(told[0], Town)
                    answers = [asked_by_search(city.whole(), measure, *told) for city in (one, other)]
                    self.assertNotEqual(answers[0], answers[1])
        self.assertGreater(seen.count(True), 100)
        self.assertGreater(seen.count(False), 50)

    def test_no_town_finds_a_kept_promise_broken(self):
        chance = random.Random(17)
        for city, _ in self.cities(18, 150):
            before = city.whole()
            for measure in PROMISED:
                city.promise(measure, chance.choice(KINDS))
            for spot in city.spots():
                quarter = drawn_quarter(chance, city.quarter(spot).gates())
                if not city.barring(spot, quarter):
                    city.exchange(spot, quarter)
            self.assertEqual(city.broken(), [])
            if len(city.gates()) == 1:
                continue
            for measure, kind, _ in city.promises():
                town = small_town(chance, city.gates() + ["s", "t"], 5)
                start, goal = two_places(chance, city.gates(), town)
                old, new = [asked_by_search(one, measure, town, start, goal) for one in (before, city.whole())]
                self.assertFalse(old != new if kind == "alike" else is_worse(measure, new, old))

    def test_the_lots_of_the_whole(self):
        for city, _ in self.cities(19, 20):
            self.assertEqual(list(table_of(city.whole(), "most")), lots_by_sight(city.gates()))


if __name__ == "__main__":
    unittest.main()
