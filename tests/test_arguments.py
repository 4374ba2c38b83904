"""[2] and [5] at each function: wrong arguments, and what is passed and returned."""

import copy
import unittest

from gatequarters import quarters, spares
from gatequarters.errors import InvalidChange, InvalidPlace, Unlike
from gatequarters.quarters import Quarter, Town
from tests.calls import CALLS, STREETS, error_for, is_right
from tests.support import ONE, odd_objects, plain


def spoil(value):
    """Empty every list and dictionary in a value."""
    if isinstance(value, (list, tuple)):
        for part in value:
            spoil(part)
    if isinstance(value, dict):
        for key in list(value):
            spoil(value[key])
    if isinstance(value, (list, dict)):
        value.clear()


def keys_turned(value):
    """Return an equal value, the keys of all dictionaries in it in the opposite order."""
    if isinstance(value, list):
        return [keys_turned(part) for part in value]
    if isinstance(value, tuple):
        return tuple(keys_turned(part) for part in value)
    if isinstance(value, dict):
        return {key: keys_turned(value[key]) for key in list(value)[::-1]}
    return value


class Arguments(unittest.TestCase):
    def refused(self, function, arguments, error, value):
        with self.assertRaises(error, msg=f"{function.__name__} {value!r}") as caught:
            function(**arguments)
        self.assertIs(caught.exception.__class__, error)
        self.assertIs(caught.exception.value, value)

    def test_the_first_wrong_argument_is_refused_whatever_stands_behind_it(self):
        for function, right in CALLS:
            for name in right:
                for thing in odd_objects():
                    if is_right(function, right, name, thing):
                        continue
                    error = error_for(name, right[name])
                    self.refused(function, {**right, name: thing}, error, thing)
                    behind = list(right)[list(right).index(name) + 1:]
                    arguments = {**right, name: thing, **{word: True for word in behind}}
                    self.refused(function, arguments, error, thing)

    def test_quarters_with_other_gates_are_unlike(self):
        seen = 0
        for function, right in CALLS:
            second = [name for name in right if isinstance(right[name], Quarter) and name != "value"][1:]
            for gates in (["in"], ["in", "out", "mid"], ["in", "ouu"]):
                for name in second:
                    other = Quarter([], gates)
                    behind = list(right)[list(right).index(name) + 1:]
                    arguments = {**right, name: other, **{word: True for word in behind}}
                    self.refused(function, arguments, Unlike, other)
                    seen += 1
        self.assertGreaterEqual(seen, 3 * 10)

    def test_the_goal_is_not_the_start(self):
        for function, right in CALLS:
            if "goal" in right:
                self.refused(function, {**right, "goal": right["start"]}, InvalidPlace, right["start"])

    def test_places_inside_the_quarter_are_not_asked_of(self):
        inner = Quarter([("ax", "in", "mid", 1, 1), ("xb", "mid", "out", 1, 1)], ["in", "out"])
        for function, right in CALLS:
            if "goal" in right and "quarter" in right:
                self.refused(function, {**right, "quarter": inner, "start": "mid"}, InvalidPlace, "mid")
                self.refused(function, {**right, "quarter": inner, "goal": "mid"}, InvalidPlace, "mid")

    def test_judges_return_true_or_false_for_any_object(self):
        for function, right in CALLS:
            if "value" in right:
                self.assertIs(function(**right), True, function.__name__)
                # Nothing at all can always be shut, or widened.
                empty = [plain([])] if function in (spares.is_spare, spares.is_wide) else []
                for thing in odd_objects():
                    if plain(thing) not in [plain(right["value"])] + empty:
                        self.assertIs(function(**{**right, "value": thing}), False, function.__name__)

    def test_arguments_by_position_and_by_name(self):
        for function, right in CALLS:
            self.assertEqual(plain(function(*right.values())), plain(function(**right)), function.__name__)

    def test_equal_calls_return_equal_results(self):
        for function, right in CALLS:
            again = copy.deepcopy(right)
            self.assertEqual(plain(function(**right)), plain(function(**again)), function.__name__)

    def test_the_order_of_streets_and_gates_means_nothing(self):
        for function, right in CALLS:
            turned = dict(right)
            for name in right:
                if isinstance(right[name], Quarter):
                    turned[name] = Quarter(right[name].streets()[::-1], right[name].gates()[::-1])
                if isinstance(right[name], Town):
                    turned[name] = Town(right[name].streets()[::-1])
            self.assertEqual(plain(function(**right)), plain(function(**turned)), function.__name__)

    def test_the_order_of_keys_means_nothing(self):
        for function, right in CALLS:
            turned = {name: keys_turned(right[name]) for name in right}
            self.assertEqual(plain(function(**right)), plain(function(**turned)), function.__name__)

    def test_functions_do_not_change_their_arguments(self):
        for function, right in CALLS:
            before = plain(right)
            function(**right)
            self.assertEqual(plain(right), before, function.__name__)

    def test_what_was_returned_may_be_changed(self):
        for function, right in CALLS:
            first = function(**right)
            before = plain(first)
            spoil(first)
            self.assertEqual(plain(function(**right)), before, function.__name__)


    def test_what_was_passed_may_be_changed_afterwards(self):
        for function, right in CALLS:
            arguments = copy.deepcopy(right)
            told = function(**arguments)
            before = plain(told)
            spoil(list(arguments.values()))
            self.assertEqual(plain(told), before, function.__name__)

    def test_what_was_passed_does_not_change_with_what_was_returned(self):
        for function, right in CALLS:
            arguments = copy.deepcopy(right)
            spoil(function(**arguments))
            self.assertEqual(plain(arguments), plain(right), function.__name__)


class Kept(unittest.TestCase):
    def test_a_quarter_does_not_change_with_what_was_passed(self):
        streets, gates = list(STREETS), ["out", "in"]
        quarter = Quarter(streets, gates)
        streets.clear()
        gates.append("mid")
        self.assertEqual(quarter.streets(), [("back", "out", "mid", 0, 3), ("main", "in", "out", 2, 1)])
        self.assertEqual(quarter.gates(), ["in", "out"])

    def test_a_quarter_does_not_change_with_what_it_returned(self):
        quarter = Quarter(STREETS, ["out", "in"])
        quarter.streets().clear()
        quarter.gates().append("mid")
        self.assertEqual(len(quarter.streets()), 2)
        self.assertEqual(quarter.gates(), ["in", "out"])

    def test_a_town_does_not_change(self):
        streets = list(STREETS)
        town = Town(streets)
        streets.clear()
        town.streets().clear()
        self.assertEqual(town.streets(), [("back", "out", "mid", 0, 3), ("main", "in", "out", 2, 1)])

    def test_a_changed_quarter_leaves_the_first_one_as_it_was(self):
        quarter = Quarter(STREETS, ["out", "in"])
        quarters.changed(quarter, ("out", "main"))
        quarters.changed_by(quarter, [("turn", "main"), ("width", "back", 5)])
        quarters.mirrored(quarter)
        quarters.trimmed(quarter)
        self.assertEqual(quarter, Quarter(STREETS, ["out", "in"]))

    def test_a_call_that_is_refused_changes_nothing(self):
        quarter = Quarter(STREETS, ["out", "in"])
        changes = [("out", "main"), ("out", "main")]
        with self.assertRaises(InvalidChange):
            quarters.changed_by(quarter, changes)
        self.assertEqual(quarter, Quarter(STREETS, ["out", "in"]))
        self.assertEqual(changes, [("out", "main"), ("out", "main")])


if __name__ == "__main__":
    unittest.main()
