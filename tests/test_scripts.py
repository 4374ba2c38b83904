"""[103] to [106]: scripts against a plain second city, their texts by a plain writer, and odd ones."""

import copy
import random
import time
import unittest

from gatequarters import scripts
from gatequarters.city import City
from gatequarters.errors import GateError, InvalidCity, InvalidGates, InvalidScript, InvalidText
from gatequarters.papers import change_text, quarter_text
from gatequarters.quarters import Quarter
from tests.plain_city import PlainCity, drawn_command, drawn_quarter
from tests.support import HOME, ONE, TWO, odd_objects, plain

HUGE = 10 ** 29
WIDE = Quarter([("main", "in", "out", 7, 1), ("more", "in", "out", 1, 0)], ["in", "out"])
WORDS = {"promise": "promised", "put": "put", "barring": "barred", "spare": "spare", "broken": "broken"}


def drawn_script(chance, many, depth):
    """Return a random script, drawn for a plain city as it grows."""
    second, script = PlainCity(["a", "b"]), []
    for _ in range(many):
        if depth and chance.random() < 0.2:
            script.append(("try", drawn_script(chance, chance.randint(0, 3), depth - 1)))
            continue
        command = drawn_command(chance, second)
        if command[0] in ("kept_widths", "kept_lengths"):
            command = ("put", drawn_quarter(chance, ["a", "b"]))
        if command[0] == "spare_streets":
            command = ("spare", command[1])
        script.append(command)
        said_by_steps(second, [command])
    return script


def said_by_steps(second, script):
    """Return what is said as a script is played on a plain city, which it changes."""
    said = []
    for command in script:
        if command[0] == "try":
            said.append(("tried", said_by_steps(copy.deepcopy(second), command[1])))
            continue
        try:
            method = "spare_streets" if command[0] == "spare" else command[0]
            told = getattr(second, method)(*copy.deepcopy(command[1:]))
            said.append((WORDS[command[0]], told) if command[0] in WORDS else ("done",))
        except GateError as error:
            said.append(("refused", type(error).__name__))
    return said


def text_by_lines(script, inset=""):
    """Return the lines of a script, written plainly."""
    lines = []
    for command in script:
        head, rest = [command[0]], None
        for thing in command[1:]:
            if isinstance(thing, Quarter):
                rest = quarter_text(thing).split("\n")
            elif isinstance(thing, list) and command[0] == "change":
                rest = [change_text(change) for change in thing]
            elif isinstance(thing, list):
                rest = text_by_lines(thing)
            else:
                head.append(str(thing))
        lines.append(inset + " ".join(head))
        if rest is not None:
            lines += [inset + "  " + line for line in rest] + [inset + "end"]
    return lines


def end_by_steps(gates, script):
    second = PlainCity(gates)
    said_by_steps(second, script)
    return plain(({spot: second.lying[spot] for spot in sorted(second.lying)},
                  [(measure, kind, {spot: quarters[spot] for spot in sorted(quarters)})
                   for measure, kind, quarters in second.promised]))


class Played(unittest.TestCase):
    def test_what_is_said_and_the_city_behind_it(self):
        chance = random.Random(1)
        words = []
        for _ in range(150):
            script = drawn_script(chance, 12, 3)
            city, second = City(["b", "a"]), PlainCity(["b", "a"])
            before = copy.deepcopy(script)
            said = scripts.play(city, script)
            self.assertEqual(plain(said), plain(said_by_steps(second, script)))
            self.assertEqual(plain(script), plain(before))
            self.assertEqual(plain(city.log()), plain([command for command, _ in second.past]))
            self.assertEqual(city.spots(), sorted(second.lying))
            words += [one[0] for one in said] + [one[1] for one in said if one[0] == "refused"]
        for word in ("promised", "put", "barred", "spare", "broken", "tried", "done", "refused", "Refused", "InvalidSpot",
                     "InvalidCount", "Unlike", "InvalidChange", "NothingToUndo", "NothingToRedo"):
            self.assertGreater(words.count(word), 2, word)

    def test_a_city_that_holds_something_already(self):
        city = City(["in", "out"])
        city.put(ONE)
        self.assertEqual(scripts.play(city, [("put", TWO), ("take", 0), ("spare", 1), ("undo",), ("undo",), ("undo",), ("undo",)]),
                         [("put", 1), ("done",), ("spare", ["left", "right"]), ("done",), ("done",), ("done",),
                          ("refused", "NothingToUndo")])
        self.assertEqual(city.spots(), [])
        self.assertEqual(scripts.play(city, []), [])

    def test_tries_four_deep(self):
        script = [("force", 0, WIDE)]
        for _ in range(4):
            script = [("undo",), ("put", TWO), ("try", script), ("broken",)]
        city = City(["in", "out"])
        city.put(ONE)
        before = plain(city)
        told = scripts.play(city, [("try", script)])
        self.assertEqual(plain(city), before)
        self.assertEqual(told[0][0], "tried")
        for _ in range(3):
            told = told[0][1] if told[0][0] == "tried" else told[2][1]
            self.assertEqual((told[0], told[2][0]), (("done",), "tried"))

    def test_a_script_that_is_none_changes_nothing(self):
        city = City(["in", "out"])
        for script in ([("put", ONE), ("far",)], [("put", ONE), ("try", [("undo", 1)])], ([("put", ONE)],)):
            with self.assertRaises(InvalidScript) as caught:
                scripts.play(city, script)
            self.assertIs(caught.exception.value, script)
        self.assertEqual((city.spots(), city.log()), ([], []))
        for thing in odd_objects():
            if not isinstance(thing, City):
                with self.assertRaises(InvalidCity) as caught:
                    scripts.play(thing, True)
                self.assertIs(caught.exception.value, thing)

    def test_what_is_said_may_be_changed(self):
        city = City(["in", "out"])
        script = [("put", ONE), ("change", 0, [("width", "main", 9)]), ("broken",), ("spare", 0), ("try", [("broken",)])]
        said = scripts.play(city, script)
        script[1][2].clear()
        script[4][1].clear()
        said[2][1].append(3)
        said[4][1].clear()
        self.assertEqual(city.log(), [("put", ONE), ("change", 0, [("width", "main", 9)])])
        self.assertEqual((city.broken(), city.spare_streets(0)), ([], ["main"]))


class Scripts(unittest.TestCase):
    def test_what_is_no_script(self):
        for script in (
            None, (), {}, "undo", ("undo",), [["undo"]], [()], [("undo", 1)], [("far",)], [("promise", "most")],
            [("promise", "shut2", "alike")], [("promise", "alike", "most")], [("promise", True, "alike")],
            [("promise", ["most"], "alike")], [("release",)], [("release", -1)], [("release", True)], [("release", "0")],
            [("put", None)], [("put", ONE, ONE)], [("put", HOME)], [("take", None)], [("take", 0, 0)],
            [("exchange", ONE, 0)], [("exchange", 0)], [("change", 0, ())], [("change", 0, [("out",)])],
            [("change", 0, ("out", "a"))], [("change", 0, None)], [("force", 0, [ONE])], [("barring", 0)],
            [("spare",)], [("spare", False)], [("broken", 0)], [("redo", None)], [("try",)], [("try", ())],
            [("try", [("far",)])], [("try", [("try", [("undo", 1)])])], [("try", None)], [(None,)], [(["undo"],)],
            [("undo",), None], {("undo",): 0}, [({},)], [(True, 0)],
        ):
            for function, rest in ((scripts.script_text, []), (scripts.end_of, [["a"]]), (scripts.shortened, [["a"]])):
                with self.assertRaises(InvalidScript) as caught:
                    function(*rest, script)
                self.assertIs(caught.exception.value, script)

    def test_gates_come_first(self):
        for function in (scripts.end_of, scripts.shortened):
            for gates in ([], ["a", "a"], ("a",), None, ["A"], [1]):
                with self.assertRaises(InvalidGates) as caught:
                    function(gates, True)
                self.assertIs(caught.exception.value, gates)

    def test_texts_of_drawn_scripts(self):
        chance = random.Random(2)
        for _ in range(150):
            script = drawn_script(chance, chance.randint(0, 6), 3)
            text = scripts.script_text(script)
            self.assertEqual(text, "\n".join(text_by_lines(script)))
            again = scripts.read_script(text)
            self.assertEqual(plain(again), plain(script))

    def test_the_empty_script_and_great_counts(self):
        self.assertEqual((scripts.script_text([]), scripts.read_script("")), ("", []))
        script = [("take", HUGE), ("change", HUGE, []), ("try", []), ("spare", 0), ("release", HUGE)]
        text = f"take {HUGE}\nchange {HUGE}\nend\ntry\nend\nspare 0\nrelease {HUGE}"
        self.assertEqual(scripts.script_text(script), text)
        self.assertEqual(scripts.read_script(text), script)
        self.assertEqual(scripts.play(City(["a"]), script),
                         [("refused", "InvalidSpot"), ("refused", "InvalidSpot"), ("tried", []), ("refused", "InvalidSpot"),
                          ("refused", "InvalidCount")])

    def test_each_text_is_refused_or_is_that_of_what_is_read(self):
        chance = random.Random(3)
        seen = []
        for _ in range(100):
            text = scripts.script_text(drawn_script(chance, 4, 2))
            for _ in range(25):
                at = chance.randint(0, len(text))
                sign = chance.choice("ab09 \n\r-Ztend")
                other = chance.choice([text[:at] + sign + text[at:], text[:at] + text[at + 1:], text[:at] + sign + text[at + 1:]])
                try:
                    read = scripts.read_script(other)
                    seen.append(True)
                    self.assertEqual("\n".join(text_by_lines(read)), other)
                except InvalidText as error:
                    seen.append(False)
                    self.assertIs(error.value, other)
        self.assertGreater(seen.count(True), 100)
        self.assertGreater(seen.count(False), 500)

    def test_odd_texts(self):
        quarter = "put\n  main in out 2 1\n  gates in out\nend"
        self.assertEqual(scripts.read_script(quarter), [("put", ONE)])
        for text in (
            "\n", "undo\n", "\nundo", "undo ", " undo", "undo\n\nundo", "Undo", "far", "end", "try", "try\nend\nend",
            "try\n  undo", "try\nundo\nend", "try\n undo\nend", "try\n   undo\nend", "try\n  try\nend", "take 01", "take",
            "take 1 1", "take -1", "take one", "take 1\nend", "broken 1", "promise most", "promise alike most",
            "promise shut2 alike", "put", "put\nend", "put\n  gates\nend", quarter + "\nend", quarter[:-4], quarter + " ",
            quarter.replace("  ", " "), quarter.replace("  ", "    "), "put 0" + quarter[3:], "exchange" + quarter[3:],
            "change 0", "change 0\n  far a\nend", "change 0\n  out A\nend", "change 0\n  \nend", "try\n  \nend",
            "change\nend", "take 1\r", "spare", "release", "try 1\nend", "undo\nredo\n  broken", "promise most alike 1",
        ):
            with self.assertRaises(InvalidText, msg=repr(text)) as caught:
                scripts.read_script(text)
            self.assertIs(caught.exception.value, text)
        for thing in odd_objects():
            if not isinstance(thing, str):
                with self.assertRaises(InvalidText) as caught:
                    scripts.read_script(thing)
                self.assertIs(caught.exception.value, thing)


class Ends(unittest.TestCase):
    def test_ends_of_drawn_scripts(self):
        chance = random.Random(4)
        for _ in range(150):
            script = drawn_script(chance, 6, 2)
            self.assertEqual(plain(scripts.end_of(["b", "a"], script)), end_by_steps(["a", "b"], script))

    def test_shortened_scripts_by_leaving_out_one_by_one(self):
        chance = random.Random(5)
        lengths = []
        for _ in range(150):
            script = drawn_script(chance, 6, 2)
            before = plain(script)
            end = end_by_steps(["a", "b"], script)
            left = list(script)
            for at in range(len(script) - 1, -1, -1):
                if end_by_steps(["a", "b"], left[:at] + left[at + 1:]) == end:
                    left = left[:at] + left[at + 1:]
            told = scripts.shortened(["a", "b"], script)
            self.assertEqual(plain(told), plain(left))
            self.assertEqual(plain(script), before)
            lengths.append(len(script) - len(left))
        self.assertGreater(len(set(lengths)), 3)

    def test_what_is_left_shares_nothing_with_what_was_passed(self):
        script = [("put", ONE), ("change", 0, [("width", "main", 9)]), ("try", [("undo",)])]
        told = scripts.shortened(["in"], script)
        self.assertEqual(told, script[:2])
        told[1][2].clear()
        self.assertEqual(script[1], ("change", 0, [("width", "main", 9)]))
        quarters, promises = scripts.end_of(["in"], script + [("promise", "way", "alike")])
        quarters.clear()
        promises[0][2].clear()
        self.assertEqual(len(scripts.end_of(["in"], script)[0]), 1)

    def test_a_try_that_matters_is_never_left(self):
        # What a try does is gone; only its own place could matter, and it does not.
        self.assertEqual(scripts.shortened(["in", "out"], [("try", [("put", ONE)]), ("try", [])]), [])
        self.assertEqual(scripts.shortened(["in", "out"], [("put", ONE), ("take", 0), ("put", TWO)]),
                         [("put", ONE), ("take", 0), ("put", TWO)])
        self.assertEqual(scripts.end_of(["out", "in"], []), ({}, []))
        self.assertEqual(scripts.shortened(["out", "in"], []), [])

    def test_at_the_limits(self):
        chance = random.Random(6)
        began = time.monotonic()
        parts = [Quarter([("s" + "abcdefgh"[k], *chance.sample(gates + ["x", "y", "z"], 2), 20000, 20000) for k in range(8)], gates)
                 for gates in (["a", "b", "m"], ["b", "c", "m"], ["a", "m", "c"])]
        script = [("put", part) for part in parts] + [("promise", "shut1", "alike"), ("promise", "most", "never_worse"),
                                                      ("change", 0, [("width", "sa", 1)])]
        for _ in range(5):
            scripts.shortened(["a", "b", "c"], script)
            scripts.play(City(["a", "b", "c"]), script + [("spare", spot) for spot in range(3)] + [("barring", 0, parts[0])])
        self.assertLess(time.monotonic() - began, 30)


if __name__ == "__main__":
    unittest.main()
