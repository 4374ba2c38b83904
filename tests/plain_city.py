"""A plain second city, led step by step, and drawn commands for both."""

import copy

from gatequarters.errors import InvalidChange, InvalidCount, InvalidName, InvalidSpot, NothingToRedo, NothingToUndo
from gatequarters.errors import Refused, Unlike
from gatequarters.quarters import Quarter
from tests.glue import whole_by_sight
from tests.site import is_worse
from tests.support import plain, small_streets, table_by_search

PROMISED = ["way", "widest", "most", "shut1"]
KINDS = ["alike", "never_worse"]
TABLES = {}


def table_of_whole(gates, quarters, measure):
    """Return the table of the whole, made street by street, by all its sides or walks."""
    parts = [quarters[spot] for spot in sorted(quarters)]
    whole = whole_by_sight(parts, ([{gate: gate for gate in part.gates()} for part in parts], gates))
    key = (measure, plain(whole))
    if key not in TABLES:
        TABLES[key] = table_by_search(whole, measure)
    return TABLES[key]


class PlainCity:
    """A city whose every command keeps a copy of all that was ahead of it."""

    def __init__(self, gates):
        self.gate_words = sorted(gates)
        self.lying = {}
        self.had = 0
        self.promised = []
        self.past = []
        self.ahead = []

    def state(self):
        return copy.deepcopy((self.lying, self.had, self.promised))

    def step(self, command):
        self.past.append((copy.deepcopy(command), self.state()))
        self.ahead = []

    def at(self, spot):
        if spot not in self.lying:
            raise InvalidSpot(spot)
        return self.lying[spot]

    def keeps(self, promise, quarters):
        measure, kind, before = promise
        old, new = [table_of_whole(self.gate_words, some, measure) for some in (before, quarters)]
        if kind == "alike":
            return old == new
        return not any(is_worse(measure, new[key], old[key]) for key in old)

    def broken(self):
        return [at for at, promise in enumerate(self.promised) if not self.keeps(promise, self.lying)]

    def broken_by(self, quarters):
        return [at for at, promise in enumerate(self.promised)
                if self.keeps(promise, self.lying) and not self.keeps(promise, quarters)]

    def promise(self, measure, kind):
        self.step(("promise", measure, kind))
        self.promised.append((measure, kind, dict(self.lying)))
        return len(self.promised) - 1

    def release(self, at):
        if at >= len(self.promised):
            raise InvalidCount(at)
        self.step(("release", at))
        del self.promised[at]

    def put(self, quarter):
        if self.broken_by({**self.lying, self.had: quarter}):
            raise Refused(quarter)
        self.step(("put", quarter))
        self.lying[self.had] = quarter
        self.had += 1
        return self.had - 1

    def take(self, spot):
        self.at(spot)
        left = {at: quarter for at, quarter in self.lying.items() if at != spot}
        if self.broken_by(left):
            raise Refused(spot)
        self.step(("take", spot))
        self.lying = left

    def barring(self, spot, quarter):
        if self.at(spot).gates() != quarter.gates():
            raise Unlike(quarter)
        return self.broken_by({**self.lying, spot: quarter})

    def exchange(self, spot, quarter):
        if self.barring(spot, quarter):
            raise Refused(quarter)
        self.step(("exchange", spot, quarter))
        self.lying[spot] = quarter

    def force(self, spot, quarter):
        self.barring(spot, quarter)
        self.step(("force", spot, quarter))
        self.lying[spot] = quarter

    def change(self, spot, changes):
        after = self.at(spot)
        for one in changes:
            after = changed_by_sight(after, one)
        if self.broken_by({**self.lying, spot: after}):
            raise Refused(changes)
        self.step(("change", spot, changes))
        self.lying[spot] = after

    def kept(self, spot, name, at, numbers):
        if name not in [street[0] for street in self.at(spot).streets()]:
            raise InvalidName(name)
        kept = []
        for number in numbers:
            rows = [street[:at] + (number,) + street[at + 1:] if street[0] == name else street
                    for street in self.lying[spot].streets()]
            if not self.broken_by({**self.lying, spot: Quarter(rows, self.lying[spot].gates())}):
                kept.append(number)
        return kept

    def kept_widths(self, spot, name):
        return self.kept(spot, name, 3, range(10))

    def kept_lengths(self, spot, name):
        return self.kept(spot, name, 4, range(10))

    def spare_streets(self, spot):
        return [street[0] for street in self.at(spot).streets() if street[3] and self.kept(spot, street[0], 3, [0])]

    def undo(self):
        if not self.past:
            raise NothingToUndo()
        command, state = self.past.pop()
        self.ahead.append((command, self.state()))
        self.lying, self.had, self.promised = state

    def redo(self):
        if not self.ahead:
            raise NothingToRedo()
        command, state = self.ahead.pop()
        self.past.append((command, self.state()))
        self.lying, self.had, self.promised = state


def changed_by_sight(quarter, change):
    """Return a quarter with a change that fits."""
    rows = {street[0]: street for street in quarter.streets()}
    name = change[1][0] if change[0] == "put" else change[1]
    if (change[0] == "put") == (name in rows):
        raise InvalidChange(change)
    if change[0] == "put":
        rows[name] = change[1]
    elif change[0] == "out":
        del rows[name]
    else:
        _, start, end, width, length = rows[name]
        after = {"turn": (name, end, start, width, length), "width": (name, start, end, change[-1], length),
                 "length": (name, start, end, width, change[-1])}[change[0]]
        if after == rows[name]:
            raise InvalidChange(change)
        rows[name] = after
    return Quarter(list(rows.values()), quarter.gates())


def drawn_quarter(chance, gates):
    """Return a random small quarter, most of whose streets lead from its first gates on."""
    words = gates + (["x"] if chance.random() < 0.5 else [])
    if len(words) == 1:
        words.append("x")
    return Quarter(small_streets(chance, words, chance.randint(0, 3), [0, 1, 1, 2, 4], [0, 1, 1, 2]), gates)


def drawn_gates(chance):
    return sorted(chance.sample(["a", "b", "c", "m"], chance.choice([1, 2, 2, 2, 3])))


def drawn_changes(chance, quarter):
    """Return a random list of changes that may fit a quarter."""
    changes = []
    names = [street[0] for street in quarter.streets()] + ["z"]
    for _ in range(chance.choice([0, 1, 1, 1, 2])):
        kind = chance.choice(["width", "width", "length", "turn", "out", "put"])
        if kind == "put":
            changes.append(("put", ("z", "a", "b", chance.choice([0, 1, 5]), chance.choice([0, 2]))))
        elif kind in ("width", "length"):
            changes.append((kind, chance.choice(names), chance.choice([0, 1, 2, 3, 9])))
        else:
            changes.append((kind, chance.choice(names)))
    return changes


def drawn_command(chance, city):
    """Return a random command or question (word, arguments) for a plain city as it is now."""
    word = chance.choice(["promise"] * 3 + ["put"] * 3 + ["exchange"] * 3 + ["force", "force", "change", "change"]
                         + ["take", "release", "undo", "undo", "redo", "redo", "barring", "barring", "kept_widths"]
                         + ["kept_lengths", "spare_streets", "broken"])
    spot = chance.choice(list(city.lying) + list(city.lying) + [city.had])
    lying = city.lying.get(spot, Quarter([], ["a", "b"]))
    near = drawn_quarter(chance, lying.gates() if chance.random() < 0.9 else ["a", "z"])
    if chance.random() < 0.5:
        near = Quarter([street[:3] + (max(0, street[3] + chance.choice([0, 0, 1, -1])), street[4])
                        for street in lying.streets()], lying.gates())
    if word == "promise":
        return (word, chance.choice(PROMISED), chance.choice(KINDS))
    if word == "put":
        return (word, drawn_quarter(chance, drawn_gates(chance)))
    if word == "release":
        return (word, chance.randint(0, len(city.promised)))
    if word == "change":
        return (word, spot, drawn_changes(chance, lying))
    if word in ("exchange", "force", "barring"):
        return (word, spot, near)
    if word in ("kept_widths", "kept_lengths"):
        return (word, spot, chance.choice([street[0] for street in lying.streets()] + ["z"]))
    return (word, spot) if word in ("take", "spare_streets") else (word,)
