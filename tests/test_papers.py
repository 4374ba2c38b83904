"""[108] to [112]: texts against what they are texts of, by a plain reading of each line."""

import random
import re
import unittest

from gatequarters import papers
from gatequarters.errors import InvalidChange, InvalidFlow, InvalidQuarter, InvalidTable, InvalidText, InvalidTown
from gatequarters.quarters import Quarter, Town
from tests.support import HOME, LANE, odd_objects, plain, small_streets

WORD = "[a-z]{1,8}"
COUNT = "(?:0|[1-9][0-9]*)"
STREET = f"{WORD} {WORD} {WORD} {COUNT} {COUNT}"
HUGE = 10 ** 29


def are_streets(lines):
    """Return whether some lines are those of streets with unlike names, ascending."""
    rows = [line.split(" ") for line in lines]
    if not all(re.fullmatch(STREET, line) for line in lines) or any(row[1] == row[2] for row in rows):
        return False
    names = [row[0] for row in rows]
    return names == sorted(set(names))


def is_quarter_text(text):
    """Return whether a text is one of a quarter."""
    *lines, last = text.split("\n")
    gates = last.split(" ")[1:]
    return bool(re.fullmatch(f"gates( {WORD})+", last)) and gates == sorted(set(gates)) and are_streets(lines)


def is_town_text(text):
    return text == "" or are_streets(text.split("\n"))


def is_change_text(text):
    if re.fullmatch(f"put {STREET}", text):
        return text.split(" ")[2] != text.split(" ")[3]
    return bool(re.fullmatch(f"(out|turn) {WORD}|(width|length) {WORD} {COUNT}", text))


def is_table_text(text):
    if text == "":
        return True
    keys = []
    number = "(?:-[1-9][0-9]*|0|[1-9][0-9]*)"
    for line in text.split("\n"):
        if re.fullmatch(f"{WORD}( {WORD})* = (none|{COUNT})", line):
            keys.append(tuple(line.split(" = ")[0].split(" ")))
        elif re.fullmatch(f"{number}( {number})* = (none|{COUNT})", line):
            keys.append(tuple(int(piece) for piece in line.split(" = ")[0].split(" ")))
        else:
            return False
    kinds = {type(piece) for key in keys for piece in key}
    return len(kinds) == 1 and keys == sorted(set(keys))


def is_flow_text(text):
    if text == "":
        return True
    lines = text.split("\n")
    keys = [tuple(line.split(" ")[:2]) for line in lines]
    return all(re.fullmatch(f"(quarter|town) {WORD} {COUNT}", line) for line in lines) and keys == sorted(set(keys))


def drawn_things(chance):
    """Return random things with their writers and readers, and what tells their texts."""
    words = ["a", "b", "gates", "none", "put", "out", "zz"]
    streets = [(chance.choice(["", "k", "gate"]) + street[0],) + street[1:]
               for street in small_streets(chance, words, chance.randint(0, 3), [0, 1, 10, HUGE], [0, 7, 205])]
    streets = streets if len({street[0] for street in streets}) == len(streets) else []
    change = chance.choice([("put", ("ab", "a", "gates", 10, HUGE)), ("out", "put"), ("turn", "turn"), ("width", "ab", 0),
                            ("length", "width", HUGE)])
    pieces = words if chance.random() < 0.5 else [0, 1, -1, 12, -12, HUGE, -HUGE]
    keys = [tuple(chance.choice(pieces) for _ in range(chance.randint(1, 3))) for _ in range(chance.randint(0, 3))]
    flow = {(chance.choice(["quarter", "town"]), chance.choice(words)): chance.choice([0, 5, HUGE]) for _ in keys}
    return [
        (Quarter(streets, chance.sample(words, chance.randint(1, 3))), papers.quarter_text, papers.read_quarter,
         is_quarter_text),
        (Town(streets), papers.town_text, papers.read_town, is_town_text),
        (change, papers.change_text, papers.read_change, is_change_text),
        ({key: chance.choice([None, 0, 3, HUGE]) for key in keys}, papers.table_text, papers.read_table, is_table_text),
        (flow, papers.flow_text, papers.read_flow, is_flow_text),
    ]


def other_texts(chance, text, many):
    """Yield texts with one sign left out, put in or exchanged, or two lines exchanged."""
    for _ in range(many):
        at = chance.randint(0, len(text))
        sign = chance.choice("ab09 -=\n\n\rAz\t1.e+")
        yield chance.choice([text[:at] + sign + text[at:], text[:at] + text[at + 1:], text[:at] + sign + text[at + 1:]])
    lines = text.split("\n")
    chance.shuffle(lines)
    yield "\n".join(lines)
    yield text + "\n"
    yield text + "\n" + lines[0]
    yield " " + text


class Texts(unittest.TestCase):
    def test_what_is_written_is_read_again(self):
        chance = random.Random(1)
        for _ in range(300):
            for thing, write, read, is_text in drawn_things(chance):
                text = write(thing)
                self.assertTrue(is_text(text), text)
                again = read(text)
                self.assertEqual(again, thing)
                self.assertEqual(write(again), text)
                if isinstance(thing, dict):
                    self.assertEqual(plain(again), plain({key: thing[key] for key in sorted(thing)}))
                else:
                    self.assertEqual(plain(again), plain(thing))

    def test_each_reader_takes_just_the_texts_of_its_writer(self):
        chance = random.Random(2)
        seen = []
        for _ in range(150):
            for thing, write, read, is_text in drawn_things(chance):
                for text in other_texts(chance, write(thing), 25):
                    seen.append((write.__name__, is_text(text)))
                    if is_text(text):
                        self.assertEqual(write(read(text)), text)
                    else:
                        with self.assertRaises(InvalidText, msg=repr(text)) as caught:
                            read(text)
                        self.assertIs(caught.exception.value, text)
        for name in ("quarter_text", "town_text", "change_text", "table_text", "flow_text"):
            self.assertGreater(seen.count((name, True)), 100, name)
            self.assertGreater(seen.count((name, False)), 500, name)

    def test_odd_texts(self):
        for read, texts in (
            (papers.read_quarter, ["", "gates", "gates ", "gates a a", "gates b a", "a b c 1 1", "gates a\n", "\ngates a",
                                   "a b b 1 1\ngates a", "a b c 01 1\ngates a", "a b c 1 1\na b c 1 1\ngates a",
                                   "b a c 1 1\na b c 1 1\ngates a", "a b c 1\ngates a", "a b c 1 1 1\ngates a", "gate a",
                                   "a b c +1 1\ngates a", "a b c 1 -0\ngates a", "a b c 1_0 1\ngates a", "gates a1",
                                   "a b c 1 1\r\ngates a", "gates abcdefghi", "gates  a", "gates a\ngates b"]),
            (papers.read_town, ["\n", " ", "a b c 1 1\n", "a b a 1", "gates a", "a b c one 1"]),
            (papers.read_change, ["", "put", "put ", "out", "out ", "out a b", "turn a 1", "width a", "width a 01",
                                  "width a 1 1", "put a b b 1 1", "put a b c 1", "Out a", "out a\n", "length a -1", "far a"]),
            (papers.read_table, ["a", "a = ", "a = none ", "= 1", " = 1", "a=1", "a = 1\na = 1", "b = 1\na = 1", "a 1 = 1",
                                 "a = 1\n1 = 1", "a = -1", "-0 = 1", "01 = 1", "a = 01", "a  b = 1", "a = 1 = 1", "a = None",
                                 "1 = 1\n-1 = 1", "a = = 1", "- = 1", "+1 = 1", "a = 1\n"]),
            (papers.read_flow, ["quarter a", "town a 1 ", "gate a 1", "quarter a -1", "quarter a 1\nquarter a 1", "town a none",
                                "town a 1\nquarter a 1", "quarter a b 1", "quarter A 1", "town a 1\n", "town  a 1"]),
        ):
            for text in texts:
                with self.assertRaises(InvalidText, msg=repr(text)) as caught:
                    read(text)
                self.assertIs(caught.exception.value, text)
            for thing in odd_objects():
                if not isinstance(thing, str):
                    with self.assertRaises(InvalidText) as caught:
                        read(thing)
                    self.assertIs(caught.exception.value, thing)

    def test_streets_and_gates_of_all_words(self):
        text = "gates gates none 1 1\nput width out 0 0\ngates gates none"
        self.assertEqual(papers.read_quarter(text).gates(), ["gates", "none"])
        self.assertEqual(papers.quarter_text(papers.read_quarter(text)), text)
        self.assertEqual(papers.read_table("none = none\nnone none = 0"), {("none",): None, ("none", "none"): 0})

    def test_as_many_lines_as_the_document_lets(self):
        letters = "abcdefghij"
        streets = [(one + other, "a" * 8, "b" * 8, HUGE, HUGE) for one in letters for other in letters][:99]
        quarter = Quarter(streets, ["a" * 8])
        self.assertEqual(papers.read_quarter(papers.quarter_text(quarter)), quarter)
        self.assertEqual(papers.town_text(papers.read_town(papers.town_text(Town(streets)))), papers.town_text(Town(streets)))
        table = {tuple(letters[k % 10] * 8 for k in range(at, at + 40)) + (letters[at // 10],): HUGE for at in range(100)}
        self.assertEqual(papers.read_table(papers.table_text(table)), table)


class Writers(unittest.TestCase):
    def refused(self, write, error, thing):
        with self.assertRaises(error, msg=repr(thing)) as caught:
            write(thing)
        self.assertIs(caught.exception.value, thing)

    def test_quarters_and_towns(self):
        for thing in odd_objects():
            if not isinstance(thing, Quarter):
                self.refused(papers.quarter_text, InvalidQuarter, thing)
            if not isinstance(thing, Town):
                self.refused(papers.town_text, InvalidTown, thing)
        self.refused(papers.quarter_text, InvalidQuarter, HOME)
        self.refused(papers.town_text, InvalidTown, LANE)

    def test_changes(self):
        for thing in (("put",), ("put", ("ab", "a", "a", 1, 0)), ["out", "a"], ("out", "A"), ("width", "a", True),
                      ("width", "a", -1), ("width", "a"), ("turn", "a", 1), ("far", "a"), (), None, "out a", {"out": "a"}):
            self.refused(papers.change_text, InvalidChange, thing)

    def test_tables(self):
        for thing in (
            {("a",): True}, {("a",): -1}, {("a",): "none"}, {("a", 1): 1}, {("a",): 1, (1,): 1}, {(): 1}, {(True,): 1},
            {(1, False): 1}, {("A",): 1}, {"a": 1}, {1: 1}, {None: 1}, [("a", 1)], (), None, {("a", ("b",)): 1},
            {(None,): 1}, {("abcdefghi",): 0}, {("",): 0}, {("a b",): 0}, {("a",): (1,)}, {("a",): []}, [], "",
        ):
            self.refused(papers.table_text, InvalidTable, thing)
        self.assertEqual(papers.table_text({}), "")
        self.assertEqual(papers.read_table(""), {})
        self.assertEqual(papers.table_text({(2,): 0, (-10,): None, (-9, 3): 1}), "-10 = none\n-9 3 = 1\n2 = 0")

    def test_flows(self):
        for thing in (
            {("quarter", "a"): True}, {("quarter", "a"): -1}, {("quarter", "a"): None}, {("gate", "a"): 1},
            {("quarter",): 1}, {("quarter", "a", "b"): 1}, {("quarter", "A"): 1}, {("quarter", 1): 1}, {"quarter": 1},
            [("quarter", "a", 1)], (), None, [], "", {("town", ("a",)): 1}, {None: 1}, {(True, "a"): 1},
        ):
            self.refused(papers.flow_text, InvalidFlow, thing)
        self.assertEqual(papers.flow_text({}), "")
        self.assertEqual(papers.read_flow(""), {})


if __name__ == "__main__":
    unittest.main()
