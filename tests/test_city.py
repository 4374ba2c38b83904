"""[93] to [102]: the edges that the document names, wrong arguments, blocks, and what may be changed."""

import random
import time
import unittest

from gatequarters import city as cities
from gatequarters import errors
from gatequarters.alike import is_notice
from gatequarters.city import City
from gatequarters.orders import is_worse_town
from gatequarters.quarters import Quarter, Town
from tests.support import HOME, MEASURES, ONE, TWO, named_streets, odd_objects, plain

NECK = Quarter([("neck", "out", "end", 1, 1)], ["out", "end"])
WIDE = Quarter([("main", "in", "out", 7, 1), ("more", "in", "out", 1, 0)], ["in", "out"])
ALONE = Quarter([("off", "x", "a", 2, 1)], ["a"])


def town_of(*gates):
    """Return a city with two quarters, two promises and a command that was taken back."""
    city = City(list(gates) or ["in", "end"])
    city.put(ONE)
    city.put(NECK)
    city.promise("most", "alike")
    city.promise("way", "never_worse")
    city.promise("widest", "alike")
    city.undo()
    return city


# Each method with arguments that are right.
METHODS = [
    ("quarter", {"spot": 0}), ("promise", {"measure": "shut1", "kind": "never_worse"}), ("release", {"at": 1}),
    ("witness", {"at": 0}), ("is_witness", {"at": 0, "value": None}), ("put", {"quarter": TWO}), ("take", {"spot": 1}),
    ("exchange", {"spot": 0, "quarter": WIDE}), ("change", {"spot": 0, "changes": [("width", "main", 5)]}),
    ("force", {"spot": 0, "quarter": TWO}), ("barring", {"spot": 0, "quarter": WIDE}),
    ("kept_widths", {"spot": 0, "name": "main"}), ("kept_lengths", {"spot": 1, "name": "neck"}),
    ("spare_streets", {"spot": 0}),
]
REFUSED = {
    "spot": errors.InvalidSpot, "measure": errors.InvalidMeasure, "kind": errors.InvalidPromise,
    "at": errors.InvalidCount, "quarter": errors.InvalidQuarter, "changes": errors.InvalidChanges,
    "name": errors.InvalidName,
}


def is_right(name, thing):
    """Return whether an odd object is a right argument."""
    if name == "quarter":
        return isinstance(thing, Quarter)
    right = {"spot": [0, 1], "at": [0, 1], "changes": [[], [("out", "main")]], "name": ["main"]}
    return plain(thing) in [plain(other) for other in right.get(name, [])]


class Arguments(unittest.TestCase):
    def refused(self, city, method, arguments, error, value):
        before = plain(city)
        with self.assertRaises(error, msg=f"{method} {value!r}") as caught:
            getattr(city, method)(**arguments)
        self.assertIs(caught.exception.__class__, error)
        self.assertIs(caught.exception.value, value)
        self.assertEqual(plain(city), before)
        city.redo()
        city.undo()

    def test_the_first_wrong_argument_is_refused_whatever_stands_behind_it(self):
        city = town_of()
        for method, right in METHODS:
            for name in right:
                for thing in odd_objects():
                    if name == "value" or is_right(name, thing):
                        continue
                    behind = list(right)[list(right).index(name) + 1:]
                    for rest in ({}, {word: True for word in behind}):
                        self.refused(city, method, {**right, name: thing, **rest}, REFUSED[name], thing)

    def test_quarters_with_other_gates(self):
        city = town_of()
        for gates in (["in"], ["in", "out", "mid"], ["out", "end"]):
            other = Quarter([], gates)
            for method in ("exchange", "force", "barring"):
                self.refused(city, method, {"spot": 0, "quarter": other}, errors.Unlike, other)

    def test_changes_that_do_not_fit(self):
        city = town_of()
        for change in (("width", "main", 2), ("out", "neck"), ("put", ("main", "in", "out", 1, 1)), ("turn", "far")):
            self.refused(city, "change", {"spot": 0, "changes": [("length", "main", 0), change]},
                         errors.InvalidChange, change)
        for changes in ((("out", "main"),), [("out",)], [["out", "main"]], [("width", "main", True)], ("out", "main")):
            self.refused(city, "change", {"spot": 0, "changes": changes}, errors.InvalidChanges, changes)

    def test_refused_with_the_last_argument(self):
        city = town_of()
        narrow = Quarter([("main", "in", "out", 0, 1)], ["in", "out"])
        changes = [("width", "main", 0)]
        self.refused(city, "exchange", {"spot": 0, "quarter": narrow}, errors.Refused, narrow)
        self.refused(city, "change", {"spot": 0, "changes": changes}, errors.Refused, changes)
        self.refused(city, "take", {"spot": 1}, errors.Refused, 1)
        more = Quarter([("by", "in", "end", 1, 1)], ["in", "end"])
        self.refused(city, "put", {"quarter": more}, errors.Refused, more)
        self.assertEqual(city.put(Quarter([], ["in"])), 2)
        self.assertEqual(city.barring(0, narrow), [0, 1])

    def test_arguments_by_position_and_by_name(self):
        for method, right in METHODS:
            one, other = town_of(), town_of()
            if method == "take":
                one.release(0), one.release(0), other.release(0), other.release(0)
            self.assertEqual(plain(getattr(one, method)(**right)), plain(getattr(other, method)(*right.values())))
            self.assertEqual(plain(one), plain(other))

    def test_what_the_methods_return(self):
        city = town_of()
        self.assertEqual([city.promise("shut1", "alike"), city.put(Quarter([], ["end"]))], [2, 2])
        told = [city.release(2), city.take(2), city.exchange(0, WIDE), city.change(0, [("out", "more")]), city.force(0, ONE),
                city.undo(), city.redo()]
        self.assertEqual(told, [None] * 7)
        self.assertEqual((city.gates(), city.spots(), city.quarter(0)), (["end", "in"], [0, 1], ONE))
        self.assertEqual(city, city)

    def test_promises_are_of_four_measures(self):
        city = town_of()
        for measure in MEASURES:
            if measure == "shut2":
                self.refused(city, "promise", {"measure": measure, "kind": True}, errors.InvalidMeasure, measure)
            else:
                with city.trial():
                    self.assertEqual(city.promise(measure, "alike"), 2)

    def test_cities_are_told_from_other_things(self):
        city = town_of()
        for thing in odd_objects():
            if isinstance(thing, City):
                continue
            for function, arguments in ((cities.replayed, (thing, True)), (cities.told_apart, (thing, True, True)),
                                        (cities.told_apart, (city, thing, True))):
                with self.assertRaises(errors.InvalidCity) as caught:
                    function(*arguments)
                self.assertIs(caught.exception.value, thing)
        other = town_of("in", "out")
        with self.assertRaises(errors.Unlike) as caught:
            cities.told_apart(city, other, True)
        self.assertEqual(caught.exception.value, other.whole())
        for measure in ("shut2", "far", True, None, ["most"]):
            with self.assertRaises(errors.InvalidMeasure) as caught:
                cities.told_apart(city, city, measure)
            self.assertIs(caught.exception.value, measure)

    def test_gates_of_a_city(self):
        for gates in ([], ["in", "in"], ("in",), ["In"], None, [1], "in", {"in": 1}, [None]):
            with self.assertRaises(errors.InvalidGates) as caught:
                City(gates)
            self.assertIs(caught.exception.value, gates)


class Spots(unittest.TestCase):
    def test_no_spot_is_had_twice_unless_it_was_taken_back(self):
        city = City(["in", "out"])
        self.assertEqual([city.put(ONE), city.put(ONE), city.take(0), city.put(TWO)], [0, 1, None, 2])
        self.assertEqual(city.spots(), [1, 2])
        city.undo()
        self.assertEqual(city.put(ONE), 2)
        with city.trial():
            self.assertEqual([city.put(ONE), city.put(ONE)], [3, 4])
        self.assertEqual(city.put(ONE), 3)
        city.undo()
        city.undo()
        city.redo()
        self.assertEqual(city.spots(), [1, 2])
        for spot in (0, 3, True, -1, None):
            with self.assertRaises(errors.InvalidSpot):
                city.quarter(spot)

    def test_a_put_that_is_refused_has_no_spot(self):
        city = City(["in", "out"])
        city.promise("most", "alike")
        with self.assertRaises(errors.Refused):
            city.put(ONE)
        city.release(0)
        self.assertEqual(city.put(ONE), 0)

    def test_a_city_without_quarters(self):
        city = City(["b", "a"])
        self.assertEqual(city.whole(), Quarter([], ["a", "b"]))
        self.assertEqual((city.spots(), city.promises(), city.broken(), city.log()), ([], [], [], []))
        for measure in ("most", "way", "widest", "shut1"):
            city.promise(measure, "alike")
            self.assertIsNone(cities.told_apart(city, City(["a", "b"]), measure))
        self.assertEqual(city.broken(), [])
        self.assertIsNone(city.witness(3))
        self.assertIs(city.is_witness(3, (Town([]), "a", "b")), False)
        self.assertEqual(city.promises()[0], ("most", "alike", {}))

    def test_one_gate_alone(self):
        city = City(["a"])
        city.put(ALONE)
        for measure in ("most", "way", "widest", "shut1"):
            city.promise(measure, "alike")
        city.exchange(0, Quarter([], ["a"]))
        city.take(0)
        self.assertEqual(city.broken(), [])


class Promises(unittest.TestCase):
    def test_only_promises_that_are_kept_bar(self):
        city = town_of()
        city.force(0, Quarter([], ["in", "out"]))
        self.assertEqual(city.broken(), [0, 1])
        city.change(0, [("put", ("thin", "in", "out", 0, 0))])
        self.assertEqual(city.kept_widths(0, "thin"), list(range(10)))
        city.change(0, [("width", "thin", 3)])
        self.assertEqual(city.broken(), [])
        self.assertEqual(city.kept_widths(0, "thin"), list(range(1, 10)))
        self.assertEqual(city.kept_lengths(0, "thin"), [0, 1])
        self.assertEqual(city.spare_streets(0), [])

    def test_widths_and_lengths_beyond_nine(self):
        city = City(["in", "out"])
        city.put(Quarter([("main", "in", "out", 12, 20)], ["in", "out"]))
        self.assertEqual(city.kept_widths(0, "main"), list(range(10)))
        city.promise("most", "alike")
        city.promise("way", "alike")
        self.assertEqual((city.kept_widths(0, "main"), city.kept_lengths(0, "main")), ([], []))

    def test_released_promises_move_the_others_up(self):
        city = town_of()
        city.promise("widest", "alike")
        city.release(0)
        self.assertEqual([promise[0] for promise in city.promises()], ["way", "widest"])
        city.undo()
        self.assertEqual([promise[0] for promise in city.promises()], ["most", "way", "widest"])
        self.assertEqual(city.promise("most", "alike"), 3)

    def test_what_is_no_witness(self):
        city = town_of()
        city.force(0, Quarter([("main", "in", "out", 0, 1)], ["in", "out"]))
        for at in (0, 1):
            told = city.witness(at)
            self.assertIs(city.is_witness(at, told), True)
            for value in (list(told), told[:2], told + (None,), (told[0], told[2], told[1]), (None, "in", "end"),
                          (told[0], "in", "in"), (told[0], "in", "out"), None, (), (told[0], "in", 0)):
                self.assertIs(city.is_witness(at, value), False, value)
        self.assertIs(city.is_witness(0, (Town([("s", "home", "in", 1, 1)]), "home", "end")), True)

    def test_witnesses_at_the_limits(self):
        chance = random.Random(4)
        began = time.monotonic()
        for _ in range(6):
            city = City(["a", "b", "c"])
            parts = []
            for gates in (["a", "b", "m"], ["b", "c", "m", "n"], ["a", "n", "c"]):
                words = gates + ["x", "y", "z", "w"][:6 - len(gates)]
                parts.append(Quarter(named_streets(chance, words, 8, 20000), gates))
                city.put(parts[-1])
            for measure, kind in (("most", "alike"), ("shut1", "alike"), ("way", "alike"), ("widest", "alike"),
                                  ("most", "never_worse"), ("shut1", "never_worse")):
                city.promise(measure, kind)
            before = city.whole()
            for spot, part in enumerate(parts):
                city.kept_widths(spot, part.streets()[0][0])
                city.kept_lengths(spot, part.streets()[1][0])
                city.spare_streets(spot)
                self.assertEqual(city.barring(spot, part), [])
                city.force(spot, Quarter(part.streets()[1:], part.gates()))
            for at in city.broken():
                measure, kind, _ = city.promises()[at]
                told = city.witness(at)
                self.assertIs(city.is_witness(at, told), True)
                judge = is_notice if kind == "alike" else is_worse_town
                self.assertIs(judge(before, city.whole(), measure, told), True)
            while len(city.log()) < 40:
                city.force(0, parts[0])
            for _ in range(40):
                city.undo()
            for _ in range(40):
                city.redo()
        self.assertLess(time.monotonic() - began, 60)


class Blocks(unittest.TestCase):
    def test_nested_ten_deep(self):
        city = town_of()
        before = plain(city)

        def lead(given, depth):
            given.force(0, TWO if depth % 2 else WIDE)
            inner = plain(given)
            if depth < 10:
                with given.trial() as name:
                    self.assertIs(name, city)
                    self.assertEqual(given.attempt(lambda same: lead(same, depth + 1)), depth + 1)
                self.assertEqual(plain(given), inner)
            return depth

        self.assertEqual(city.attempt(lambda given: lead(given, 1)), 1)
        self.assertEqual(plain(city), before)
        city.redo()
        self.assertEqual(len(city.promises()), 3)

    def test_a_block_begins_when_it_is_entered(self):
        city = City(["in", "out"])
        block = city.trial()
        city.put(ONE)
        with block:
            city.put(TWO)
        self.assertEqual(city.spots(), [0])

    def test_undo_reaches_behind_the_beginning_of_a_block(self):
        city = town_of()
        with city.trial():
            for _ in range(4):
                city.undo()
            self.assertEqual((city.spots(), city.log()), ([], []))
            with self.assertRaises(errors.NothingToUndo):
                city.undo()
            for _ in range(5):
                city.redo()
            with self.assertRaises(errors.NothingToRedo):
                city.redo()
            city.put(ALONE)
        self.assertEqual((city.spots(), len(city.promises())), ([0, 1], 2))
        city.redo()
        self.assertEqual(len(city.promises()), 3)

    def test_an_error_goes_on_and_an_attempt_calls_once(self):
        city, calls, token = town_of(), [], [[]]

        def action(given):
            calls.append(given)
            given.force(0, WIDE)
            return token

        self.assertIs(city.attempt(action=action), token)
        self.assertEqual(calls, [city])
        with self.assertRaises(ZeroDivisionError):
            with city.trial():
                city.force(0, WIDE)
                raise ZeroDivisionError()
        with self.assertRaises(errors.Refused):
            city.attempt(lambda given: given.take(0))
        self.assertEqual(city.quarter(0), ONE)

    def test_a_copy_made_in_a_block_is_in_none(self):
        city = town_of()
        with city.trial():
            city.force(0, WIDE)
            twin = city.copy()
            city.force(0, TWO)
            self.assertEqual(twin.quarter(0), WIDE)
        self.assertEqual((twin.quarter(0), city.quarter(0)), (WIDE, ONE))
        twin.undo()
        self.assertEqual(plain(twin), plain(city))
        with self.assertRaises(errors.NothingToRedo):
            twin.redo(), twin.redo()
        city.redo()
        self.assertEqual(len(city.promises()), 3)

    def test_what_is_asked_or_refused_is_no_command(self):
        city = town_of()
        for method, right in METHODS:
            if method in ("quarter", "witness", "is_witness", "barring", "kept_widths", "kept_lengths", "spare_streets"):
                getattr(city, method)(**right)
        city.gates(), city.spots(), city.whole(), city.promises(), city.broken(), city.log(), city.copy()
        with self.assertRaises(errors.Refused):
            city.take(0)
        city.redo()
        self.assertEqual(len(city.promises()), 3)


class Logs(unittest.TestCase):
    def test_the_commands_of_a_log(self):
        city = town_of()
        city.exchange(0, WIDE)
        city.change(0, [("out", "more")])
        city.force(0, ONE)
        city.release(1)
        city.put(TWO)
        city.take(2)
        self.assertEqual(city.log(), [
            ("put", ONE), ("put", NECK), ("promise", "most", "alike"), ("promise", "way", "never_worse"),
            ("exchange", 0, WIDE), ("change", 0, [("out", "more")]), ("force", 0, ONE), ("release", 1), ("put", TWO),
            ("take", 2),
        ])
        self.assertEqual(plain(cities.replayed(City(["in", "end"]), city.log())), plain(city))
        self.assertIsNot(cities.replayed(city, []), city)

    def test_what_is_no_log(self):
        city = town_of()
        for log in (None, (), {}, (("put", ONE),), [["put", ONE]], [("put",)], [("put", ONE, ONE)], [()], [("far", 1)],
                    [("undo",)], [("barring", 0, ONE)], [("promise", "most")], [(["put"], ONE)], [({}, ONE)], [None],
                    [("put", ONE), ("take",)], [(True, 1)], [("take", 0, 0)], [("spare", 0)], [("try", [])]):
            with self.assertRaises(errors.InvalidLog) as caught:
                cities.replayed(city, log)
            self.assertIs(caught.exception.value, log)

    def test_the_first_command_that_raises_an_error(self):
        city = town_of()
        before = plain(city)
        changes = [("width", "main", 0)]
        for log, error, value in (
            ([("put", TWO), ("put", 7), ("take", True)], errors.InvalidQuarter, 7),
            ([("change", 0, changes)], errors.Refused, changes), ([("take", 9)], errors.InvalidSpot, 9),
            ([("promise", "far", "alike")], errors.InvalidMeasure, "far"), ([("release", 5)], errors.InvalidCount, 5),
            ([("promise", "way", 1)], errors.InvalidPromise, 1), ([("force", 0, NECK)], errors.Unlike, NECK),
            ([("exchange", 0, HOME)], errors.InvalidQuarter, HOME),
        ):
            with self.assertRaises(error) as caught:
                cities.replayed(city, log)
            self.assertIs(caught.exception.value, value)
            self.assertEqual(plain(city), before)


class Changed(unittest.TestCase):
    def test_what_was_passed_may_be_changed(self):
        gates, changes = ["in", "end"], [("width", "main", 9)]
        city = City(gates)
        city.put(ONE)
        city.change(0, changes)
        gates.clear()
        changes.clear()
        log = [("change", 0, [("width", "main", 8)])]
        other = cities.replayed(city, log)
        log[0][2].clear()
        self.assertEqual(other.log(), [("put", ONE), ("change", 0, [("width", "main", 9)]), ("change", 0, [("width", "main", 8)])])
        self.assertEqual((city.gates(), city.log()[1]), (["end", "in"], ("change", 0, [("width", "main", 9)])))

    def test_what_was_returned_may_be_changed(self):
        city = town_of()
        city.change(0, [("width", "main", 9)])
        before = plain(city)
        city.gates().clear()
        city.spots().clear()
        city.promises()[0][2].clear()
        city.promises().clear()
        city.log()[4][2].clear()
        city.log().clear()
        city.broken().append(7)
        city.barring(0, TWO).append(7)
        city.kept_widths(0, "main").clear()
        self.assertEqual(plain(city), before)
        self.assertEqual((city.gates(), city.broken(), city.barring(0, TWO)), (["end", "in"], [], []))

    def test_quarters_do_not_change_with_the_city(self):
        city = town_of()
        quarter = city.quarter(0)
        city.change(0, [("width", "main", 9)])
        self.assertEqual(quarter, ONE)
        self.assertEqual(city.promises()[0][2], {0: ONE, 1: NECK})


if __name__ == "__main__":
    unittest.main()
