"""[2] and [5] at each function: wrong arguments, and what is passed and returned."""

import copy
import unittest

from gatequarters import quarters, ways
from gatequarters.errors import InvalidChange, InvalidChanges, InvalidCount, InvalidGates, InvalidName
from gatequarters.errors import InvalidPlace, InvalidQuarter, InvalidStreets, InvalidTown, Unlike
from gatequarters.quarters import Quarter, Town
from tests.support import HOME, LANE, ONE, TWO, odd_objects, plain

REFUSED = {
    "streets": InvalidStreets, "gates": InvalidGates, "quarter": InvalidQuarter, "elder": InvalidQuarter,
    "newer": InvalidQuarter, "town": InvalidTown, "start": InvalidPlace, "goal": InvalidPlace,
    "name": InvalidName, "change": InvalidChange, "changes": InvalidChanges, "width": InvalidCount,
}
STREETS = [("main", "in", "out", 2, 1), ("back", "out", "mid", 0, 3)]
ASKED = {"quarter": TWO, "town": HOME, "start": "home", "goal": "shop"}
ROW = [("town", "go"), ("quarter", "left"), ("town", "come")]
MARKS = {("gate", "in"): 1, ("gate", "out"): 2, ("town", "home"): 0, ("town", "shop"): 4}

# Each function with arguments that are right.
CALLS = [
    (Quarter, {"streets": STREETS, "gates": ["out", "in"]}),
    (Town, {"streets": STREETS}),
    (quarters.crossings_of, {"quarter": LANE}),
    (quarters.street_of, {"quarter": LANE, "name": "ab"}),
    (quarters.places_of, {"town": HOME}),
    (quarters.asked_of, {"quarter": LANE, "town": HOME}),
    (quarters.changed, {"quarter": ONE, "change": ("width", "main", 7)}),
    (quarters.changed_by, {"quarter": ONE, "changes": [("out", "main"), ("put", ("main", "out", "in", 2, 1))]}),
    (quarters.told_changes, {"elder": ONE, "newer": TWO}),
    (quarters.are_changes, {"elder": ONE, "newer": ONE, "value": []}),
    (quarters.mirrored, {"quarter": LANE}),
    (quarters.idle_names, {"quarter": LANE}),
    (quarters.trimmed, {"quarter": LANE}),
    (quarters.live_row, {"quarter": LANE, "name": "ab"}),
    (quarters.is_live_row, {"quarter": LANE, "name": "ab", "value": [("ab", "a", "b", 2, 1)]}),
    (ways.net_streets, {"quarter": LANE, "town": HOME}),
    (ways.net_places, {"quarter": LANE, "town": HOME}),
    (ways.is_way, {**ASKED, "value": ROW}),
    (ways.way_length, ASKED),
    (ways.shortest_way, ASKED),
    (ways.is_shortest_way, {**ASKED, "value": ROW}),
    (ways.heights, ASKED),
    (ways.are_heights, {**ASKED, "value": MARKS}),
    (ways.way_width, ASKED),
    (ways.widest_way, ASKED),
    (ways.is_widest_way, {**ASKED, "value": ROW}),
    (ways.narrow_lot, ASKED),
    (ways.is_narrow_lot, {**ASKED, "value": [("gate", "in"), ("town", "home")]}),
    (ways.used_streets, ASKED),
    (ways.needed_streets, ASKED),
    (ways.wide_length, {**ASKED, "width": 1}),
    (ways.trades, ASKED),
]


def is_right(name, thing):
    """Return whether a test's odd object is a right argument of its name."""
    if name == "streets":
        return plain(thing) in (plain([]), plain(STREETS[:1]))
    if name == "gates":
        return plain(thing) == plain(["main"])
    if name in ("quarter", "elder", "newer"):
        return isinstance(thing, Quarter)
    if name == "town":
        return isinstance(thing, Town)
    if name in ("start", "goal"):
        return plain(thing) in (plain("in"),)
    if name == "width":
        return plain(thing) in ("0", "1", "7", str(10 ** 29))
    if name == "change":
        return plain(thing) == plain(("out", "main"))
    if name == "changes":
        return plain(thing) in (plain([]), plain([("out", "main")]))
    return name == "value"


class Arguments(unittest.TestCase):
    def refused(self, function, arguments, error, value):
        with self.assertRaises(error, msg=f"{function.__name__} {value!r}") as caught:
            function(**arguments)
        self.assertIs(caught.exception.__class__, error)
        self.assertIs(caught.exception.value, value)

    def test_the_first_wrong_argument_is_refused_whatever_stands_behind_it(self):
        for function, right in CALLS:
            for name in right:
                for thing in odd_objects():
                    if is_right(name, thing):
                        continue
                    self.refused(function, {**right, name: thing}, REFUSED[name], thing)
                    behind = list(right)[list(right).index(name) + 1:]
                    arguments = {**right, name: thing, **{word: True for word in behind}}
                    self.refused(function, arguments, REFUSED[name], thing)

    def test_quarters_with_other_gates_are_unlike(self):
        for gates in (["in"], ["in", "out", "mid"], ["in", "ouu"]):
            other = Quarter([], gates)
            self.refused(quarters.told_changes, {"elder": ONE, "newer": other}, Unlike, other)
            self.refused(quarters.are_changes, {"elder": ONE, "newer": other, "value": None}, Unlike, other)

    def test_the_goal_is_not_the_start(self):
        for function, right in CALLS:
            if "goal" in right:
                self.refused(function, {**right, "goal": "home"}, InvalidPlace, right["start"])

    def test_places_inside_the_quarter_are_not_asked_of(self):
        inner = Quarter([("ax", "in", "mid", 1, 1), ("xb", "mid", "out", 1, 1)], ["in", "out"])
        for function, right in CALLS:
            if "goal" in right:
                self.refused(function, {**right, "quarter": inner, "start": "mid"}, InvalidPlace, "mid")
                self.refused(function, {**right, "quarter": inner, "goal": "mid"}, InvalidPlace, "mid")

    def test_judges_return_true_or_false_for_any_object(self):
        for function, right in CALLS:
            if "value" in right:
                self.assertIs(function(**right), True, function.__name__)
                for thing in odd_objects():
                    if plain(thing) != plain(right["value"]):
                        self.assertIs(function(**{**right, "value": thing}), False, function.__name__)

    def test_arguments_by_position_and_by_name(self):
        for function, right in CALLS:
            self.assertEqual(plain(function(*right.values())), plain(function(**right)), function.__name__)

    def test_equal_calls_return_equal_results(self):
        for function, right in CALLS:
            again = copy.deepcopy(right)
            self.assertEqual(plain(function(**right)), plain(function(**again)), function.__name__)

    def test_the_order_of_streets_and_gates_means_nothing(self):
        for function, right in CALLS:
            turned = dict(right)
            for name in right:
                if isinstance(right[name], Quarter):
                    turned[name] = Quarter(right[name].streets()[::-1], right[name].gates()[::-1])
                if isinstance(right[name], Town):
                    turned[name] = Town(right[name].streets()[::-1])
            self.assertEqual(plain(function(**right)), plain(function(**turned)), function.__name__)

    def test_functions_do_not_change_their_arguments(self):
        for function, right in CALLS:
            before = plain(right)
            function(**right)
            self.assertEqual(plain(right), before, function.__name__)

    def test_what_was_returned_may_be_changed(self):
        for function, right in CALLS:
            first = function(**right)
            before = plain(first)
            if isinstance(first, (list, dict)):
                first.clear()
            self.assertEqual(plain(function(**right)), before, function.__name__)


class Kept(unittest.TestCase):
    def test_a_quarter_does_not_change_with_what_was_passed(self):
        streets, gates = list(STREETS), ["out", "in"]
        quarter = Quarter(streets, gates)
        streets.clear()
        gates.append("mid")
        self.assertEqual(quarter.streets(), [("back", "out", "mid", 0, 3), ("main", "in", "out", 2, 1)])
        self.assertEqual(quarter.gates(), ["in", "out"])

    def test_a_quarter_does_not_change_with_what_it_returned(self):
        quarter = Quarter(STREETS, ["out", "in"])
        quarter.streets().clear()
        quarter.gates().append("mid")
        self.assertEqual(len(quarter.streets()), 2)
        self.assertEqual(quarter.gates(), ["in", "out"])

    def test_a_town_does_not_change(self):
        streets = list(STREETS)
        town = Town(streets)
        streets.clear()
        town.streets().clear()
        self.assertEqual(town.streets(), [("back", "out", "mid", 0, 3), ("main", "in", "out", 2, 1)])

    def test_a_changed_quarter_leaves_the_first_one_as_it_was(self):
        quarter = Quarter(STREETS, ["out", "in"])
        quarters.changed(quarter, ("out", "main"))
        quarters.changed_by(quarter, [("turn", "main"), ("width", "back", 5)])
        quarters.mirrored(quarter)
        quarters.trimmed(quarter)
        self.assertEqual(quarter, Quarter(STREETS, ["out", "in"]))

    def test_a_call_that_is_refused_changes_nothing(self):
        quarter = Quarter(STREETS, ["out", "in"])
        changes = [("out", "main"), ("out", "main")]
        with self.assertRaises(InvalidChange):
            quarters.changed_by(quarter, changes)
        self.assertEqual(quarter, Quarter(STREETS, ["out", "in"]))
        self.assertEqual(changes, [("out", "main"), ("out", "main")])


if __name__ == "__main__":
    unittest.main()
