"""[37] to [42]: alike quarters, notices and even towns against drawn towns and quarters."""

import itertools
import random
import unittest

from gatequarters import alike
from gatequarters.quarters import Quarter, Town
from gatequarters.tables import table_of
from tests.support import MEASURES, asked_by_search, lots_by_sight, small_quarter, small_streets, small_town
from tests.support import table_by_search, two_places

GATES = [["a", "b"], ["a", "b", "c"], ["a", "c", "z"], ["a", "b", "c", "d"]]


def pairs(seed, many, most=5):
    """Yield two random quarters with the same gates; often one is the other, a little changed."""
    chance = random.Random(seed)
    for _ in range(many):
        gates = chance.choice(GATES)
        one = small_quarter(chance, gates, most)
        if chance.random() < 0.3:
            out = chance.choice([1, 9])
            yield funnel(gates, 1, out), funnel(gates, 2, out)
        elif chance.random() < 0.3:
            yield one, small_quarter(chance, gates, most)
        else:
            yield one, nudged(chance, one)


def funnel(gates, width, out):
    """Return a quarter from half of the gates through one street of a width to the others.

    A town must join several gates before the width matters.
    """
    half = (len(gates) + 1) // 2
    ahead = [("pqr"[k], gate, "x", 1, 0) for k, gate in enumerate(gates[:half])]
    behind = [("uvw"[k], "y", gate, out, 0) for k, gate in enumerate(gates[half:])]
    return Quarter(ahead + [("mid", "x", "y", width, 0)] + behind, gates)


def nudged(chance, owner):
    """Return a quarter or a town with one number of one street changed, and its streets renamed."""
    streets = []
    at = chance.randrange(len(owner.streets())) if owner.streets() else 0
    for k, (_, start, end, width, length) in enumerate(owner.streets()):
        if k == at and chance.random() < 0.5:
            width = max(0, width + chance.choice([-1, 1, 2]))
        elif k == at:
            length = max(0, length + chance.choice([-1, 1, 2]))
        streets.append(("zyxwvutsr"[k], start, end, width, length))
    return Quarter(streets, owner.gates()) if isinstance(owner, Quarter) else Town(streets)


def used_gates(gates, notice):
    """Return how many gates a town uses, the places that are asked among them."""
    town, start, goal = notice
    ends = {start, goal}
    for _, begin, end, _, _ in town.streets():
        ends |= {begin, end}
    return len(ends & set(gates))


class Alike(unittest.TestCase):
    def test_alike_means_equal_tables(self):
        seen = []
        for one, other in pairs(1, 100):
            told = alike.alike_measures(one, other)
            self.assertEqual(told, sorted(told))
            for measure in MEASURES:
                right = table_by_search(one, measure) == table_by_search(other, measure)
                self.assertIs(alike.is_alike(one, other, measure), right)
                self.assertEqual(measure in told, right)
                seen.append(right)
        self.assertGreater(seen.count(False), 50)
        self.assertGreater(seen.count(True), 50)

    def test_no_town_tells_alike_quarters_apart_and_answers_are_those_of_the_nets(self):
        chance = random.Random(2)
        for one, other in pairs(3, 100):
            town = small_town(chance, ["a", "b", "c", "x", "s", "t"], 5)
            start, goal = two_places(chance, one.gates(), town)
            for measure in MEASURES:
                answers = [asked_by_search(quarter, measure, town, start, goal) for quarter in (one, other)]
                self.assertEqual(alike.asked(one, measure, town, start, goal), answers[0])
                self.assertEqual(alike.asked(other, measure, town, start, goal), answers[1])
                right = answers[0] != answers[1]
                self.assertIs(alike.is_notice(one, other, measure, (town, start, goal)), right)
                if alike.is_alike(one, other, measure):
                    self.assertIs(right, False)

    def test_towns_as_great_as_the_document_lets(self):
        chance = random.Random(4)
        for one, other in pairs(5, 4, 4):
            streets = small_streets(chance, ["a", "b", "s", "t", "u", "v"], 8, [0, 1, 2, 1000], [0, 1, 1000])
            town = Town(streets + [("y", "s", "t", 5, 5), ("z", "u", "v", 5, 5)])
            for measure in ("most", "shut1", "shut2"):
                for start, goal in itertools.permutations(["a", "s", "v"], 2):
                    self.assertEqual(alike.asked(one, measure, town, start, goal),
                                     asked_by_search(one, measure, town, start, goal))


class Notices(unittest.TestCase):
    def check_answers(self, one, other, measure, notice):
        town, start, goal = notice
        answers = [asked_by_search(quarter, measure, town, start, goal) for quarter in (one, other)]
        self.assertNotEqual(answers[0], answers[1])
        return answers

    def test_there_is_a_notice_exactly_if_they_are_not_alike(self):
        for one, other in pairs(11, 100):
            for measure in MEASURES:
                notice = alike.notice_of(one, other, measure)
                size = alike.notice_size(one, other, measure)
                if alike.is_alike(one, other, measure):
                    self.assertIsNone(notice)
                    self.assertIsNone(size)
                    continue
                self.check_answers(one, other, measure, notice)
                self.assertIs(alike.is_notice(one, other, measure, notice), True)
                self.assertEqual(len(notice[0].streets()), size)
                self.assertLessEqual(size, 0 if measure in ("way", "widest") else len(one.gates()) - 2)

    def test_no_town_of_fewer_streets_notices(self):
        sizes = []
        for one, other in pairs(12, 150):
            for measure in ("most", "shut1", "shut2"):
                size = alike.notice_size(one, other, measure)
                sizes.append(size)
                if size:
                    for start, goal in itertools.permutations(one.gates(), 2):
                        self.assertIs(alike.is_notice(one, other, measure, (Town([]), start, goal)), False)
                if size == 2:
                    self.check_no_town_of_one_street(one, other, measure)
        self.assertGreater(sizes.count(0), 5)
        self.assertGreater(sizes.count(1), 5)

    def check_no_town_of_one_street(self, one, other, measure):
        places = one.gates() if len(one.gates()) > 4 else one.gates() + ["s"]
        for begin, end in itertools.permutations(places, 2):
            for width in (1, 99):
                town = Town([("t", begin, end, width, 1)])
                words = sorted(set(one.gates()) | {begin, end})
                for start, goal in itertools.permutations(words, 2):
                    self.assertIs(alike.is_notice(one, other, measure, (town, start, goal)), False)

    def test_notices_at_each_unlike_key(self):
        for one, other in pairs(13, 100):
            for measure in MEASURES:
                tables = [table_by_search(quarter, measure) for quarter in (one, other)]
                unlike = [key for key in tables[0] if tables[0][key] != tables[1][key]]
                self.assertEqual(alike.unlike_keys(one, other, measure), unlike)
                for key in unlike:
                    notice = alike.notice_at(one, other, measure, key)
                    answers = self.check_answers(one, other, measure, notice)
                    self.assertEqual(answers, [table[key] for table in tables])
                    self.assertLessEqual(len(notice[0].streets()), len(one.gates()) - 2)

    def test_gates_needed(self):
        seen = []
        chance = random.Random(14)
        for one, other in pairs(15, 150):
            gates = one.gates()
            for measure in MEASURES:
                needed = alike.gates_needed(one, other, measure)
                seen.append(needed)
                if needed is None:
                    self.assertIs(alike.is_alike(one, other, measure), True)
                    continue
                if measure in ("way", "widest"):
                    self.assertEqual(needed, 2)
                self.assertTrue(self.some_town_does(one, other, measure, needed))
                for _ in range(10):
                    town = small_town(chance, chance.sample(gates, needed - 1) + ["s", "t"], 4)
                    start, goal = two_places(chance, gates, town)
                    if used_gates(gates, (town, start, goal)) < needed:
                        self.assertIs(alike.is_notice(one, other, measure, (town, start, goal)), False)
            for measure in ("most", "shut1", "shut2"):
                seen.append((measure, alike.gates_needed(one, other, measure)))
        for many in (2, 3, 4):
            self.assertGreater(seen.count(("most", many)), 2)

    def some_town_does(self, one, other, measure, many):
        for some in itertools.combinations(one.gates(), many):
            for within in lots_by_sight(some):
                without = [gate for gate in some if gate not in within]
                steps = [(within[0], gate) for gate in within[1:]] + [(gate, without[0]) for gate in without[1:]]
                town = Town([("stuvw"[k], *step, 999, 0) for k, step in enumerate(steps)])
                if alike.is_notice(one, other, measure, (town, within[0], without[0])):
                    return True
        return False

    def test_five_gates_of_which_all_are_needed(self):
        # Only what leaves {a, b} with all others outside differs, however a town joins gates.
        gates = ["a", "b", "c", "d", "e"]
        base = [("in" + gate, gate, "x", 1, 0) for gate in gates[:2]] + [("in" + gate, "y", gate, 1, 0) for gate in gates[2:]]
        one = Quarter(base + [("mid", "x", "y", 1, 0)], gates)
        other = Quarter(base + [("mid", "x", "y", 2, 0)], gates)
        self.assertIn(("a", "b"), alike.unlike_keys(one, other, "most"))
        size = alike.notice_size(one, other, "most")
        notice = alike.notice_of(one, other, "most")
        self.assertEqual((size, len(notice[0].streets())), (2, 2))
        self.check_no_town_of_one_street(one, other, "most")
        self.assertEqual(alike.gates_needed(one, other, "most"), 4)


class Even(unittest.TestCase):
    def towns(self, seed, many):
        chance = random.Random(seed)
        for _ in range(many):
            gates = chance.choice(GATES)
            one = small_town(chance, gates + ["s", "t"], 5)
            other = nudged(chance, one) if chance.random() < 0.8 else small_town(chance, gates + ["s", "t"], 5)
            both = set(ends(one)) & set(ends(other)) | set(gates)
            start, goal = chance.sample(sorted(both), 2)
            yield gates, one, other, start, goal, chance

    def test_no_quarter_hears_even_towns_and_some_quarter_hears_others(self):
        seen = []
        for gates, one, other, start, goal, chance in self.towns(21, 300):
            for measure in ("most", "way"):
                even = alike.are_even(gates[::-1], measure, one, other, start, goal)
                heard = alike.hearing_quarter(gates[::-1], measure, one, other, start, goal)
                seen.append((measure, even))
                self.assertIs(even, heard is None)
                if not even:
                    self.assertEqual(heard.gates(), gates)
                    answers = [asked_by_search(heard, measure, town, start, goal) for town in (one, other)]
                    self.assertNotEqual(answers[0], answers[1])
                    self.assertIs(
                        alike.is_hearing_quarter(gates, measure, one, other, start, goal, heard), True)
                for _ in range(12):
                    quarter = small_quarter(chance, gates, 6)
                    answers = [alike.asked(quarter, measure, town, start, goal) for town in (one, other)]
                    right = answers[0] != answers[1]
                    self.assertIs(
                        alike.is_hearing_quarter(gates, measure, one, other, start, goal, quarter), right)
                    self.assertFalse(even and right)
        for measure in ("most", "way"):
            self.assertGreater(seen.count((measure, True)), 30)
            self.assertGreater(seen.count((measure, False)), 30)

    def test_a_quarter_is_gone_through_twice(self):
        # Only a quarter with two streets, used one behind the other, tells these towns apart.
        gates = ["a", "b", "c", "d"]
        one = Town([("s", "home", "a", 1, 0), ("m", "b", "c", 1, 1), ("t", "d", "shop", 1, 0)])
        other = Town([("s", "home", "a", 1, 0), ("m", "b", "c", 1, 2), ("t", "d", "shop", 1, 0)])
        self.assertIs(alike.are_even(gates, "way", one, other, "home", "shop"), False)
        heard = alike.hearing_quarter(gates, "way", one, other, "home", "shop")
        self.assertNotEqual(alike.asked(heard, "way", one, "home", "shop"),
                            alike.asked(heard, "way", other, "home", "shop"))
        self.assertIs(alike.are_even(gates[:3], "way", one, other, "home", "shop"), True)

    def test_one_gate_alone(self):
        one = Town([("s", "home", "a", 1, 3), ("t", "a", "shop", 2, 0)])
        other = Town([("s", "home", "a", 2, 3), ("t", "a", "shop", 2, 0)])
        self.assertIs(alike.are_even(["a"], "most", one, other, "home", "shop"), False)
        self.assertIs(alike.are_even(["a"], "way", one, other, "home", "shop"), True)
        self.assertIs(alike.are_even(["a"], "most", one, other, "a", "shop"), True)
        heard = alike.hearing_quarter(["a"], "most", one, other, "home", "shop")
        self.assertIs(alike.is_hearing_quarter(["a"], "most", one, other, "home", "shop", heard), True)


def ends(town):
    """Return the places of a town."""
    return sorted({street[1] for street in town.streets()} | {street[2] for street in town.streets()})


if __name__ == "__main__":
    unittest.main()
