"""What several tests share: odd objects, small nets, and plain searches through them."""

import itertools

from gatequarters.errors import GateError, InvalidName
from gatequarters.quarters import Quarter, Town

ONE = Quarter([("main", "in", "out", 2, 1)], ["in", "out"])
TWO = Quarter([("left", "in", "out", 1, 1), ("right", "in", "out", 1, 1)], ["in", "out"])
LANE = Quarter(
    [("ab", "a", "b", 2, 1), ("ax", "a", "x", 1, 1), ("yb", "y", "b", 3, 0), ("ba", "b", "a", 0, 1)],
    ["b", "a", "c"],
)
HOME = Town([("go", "home", "in", 5, 1), ("come", "out", "shop", 5, 2)])


def odd_objects():
    """Return new objects of every kind that a function may be handed, right and wrong ones."""
    street = ("main", "in", "out", 2, 1)
    return [
        None, True, False, 0, 1, -1, 7, 10 ** 29, -10 ** 29,
        "", "main", "in", "Main", "ninechars", "a b", "a1", "a_b",
        [], [None], [[]], ["main"], ["in", "in"], ["in", 1], [street], [street, street], [list(street)],
        (), (None,), ("main",), ("in", "out"), street, ("put", street), ("out", "main"), ("quarter", "main"),
        {}, {None: None}, {"main": street}, {"in": "out"}, {1: True}, {("gate", "in"): 0},
        [("out", "main")], [("quarter", "main")], (("out", "main"),), {0: ("out", "main")}, {True: "in"},
        Quarter([street], ["in", "out"]), Quarter([], ["z"]), Town([street]), Town([]),
        GateError(), InvalidName("main"), [Quarter([], ["z"])], (Town([]),), {"in": Town([])},
        [[[[[[[[[[[[[[[[[[[[[[[[[[[[[[[[[[[[[[[[]]]]]]]]]]]]]]]]]]]]]]]]]]]]]]]]]]]]]]]],
    ]


def plain(value):
    """Return a value as text in which True and 1, lists and tuples, and orders of keys differ."""
    if isinstance(value, Quarter):
        return f"Quarter({value.streets()}, {value.gates()})"
    if isinstance(value, Town):
        return f"Town({value.streets()})"
    if isinstance(value, list):
        return "[" + ", ".join(plain(part) for part in value) + "]"
    if isinstance(value, tuple):
        return "(" + ", ".join(plain(part) for part in value) + ",)"
    if isinstance(value, dict):
        return "{" + ", ".join(plain(key) + ": " + plain(value[key]) for key in value) + "}"
    return repr(value)


def net_arcs(quarter, town):
    """Return a dictionary from the streets of a net to (start, end, width, length)."""
    gates = quarter.gates()
    arcs = {}
    for side, owner in (("quarter", quarter), ("town", town)):
        for name, start, end, width, length in owner.streets():
            ends = [("gate", word) if word in gates else (side, word) for word in (start, end)]
            arcs[(side, name)] = (ends[0], ends[1], width, length)
    return arcs


def all_places(quarter, town):
    """Return the ascending list of the places of a net."""
    places = {("gate", gate) for gate in quarter.gates()}
    for start, end, _, _ in net_arcs(quarter, town).values():
        places |= {start, end}
    return sorted(places)


def place_of(quarter, word):
    """Return the place of a net that a word asked of means."""
    return ("gate", word) if word in quarter.gates() else ("town", word)


def walks(arcs, start, most):
    """Yield every walk of one to so many arcs from a start, none shut, as lists of names."""
    rows = [([], start)]
    for _ in range(most):
        longer = []
        for row, at in rows:
            for name in arcs:
                if arcs[name][0] == at and arcs[name][2] > 0:
                    longer.append((row + [name], arcs[name][1]))
        yield from longer
        rows = longer


def ways_by_search(quarter, town, start, goal, most):
    """Return all ways of at most so many streets, as tuples (length, streets, width, names)."""
    arcs = net_arcs(quarter, town)
    target = place_of(quarter, goal)
    ways = []
    for row, at in walks(arcs, place_of(quarter, start), most):
        if at == target:
            length = sum(arcs[name][3] for name in row)
            ways.append((length, len(row), min(arcs[name][2] for name in row), row))
    return ways


def lists_of(things, most):
    """Yield every list of at most so many of some things, doubles among them."""
    for size in range(most + 1):
        for row in itertools.product(things, repeat=size):
            yield list(row)


def sublists_of(things):
    """Yield every list of some of the things, in their order."""
    for size in range(len(things) + 1):
        for row in itertools.combinations(things, size):
            yield list(row)


def small_streets(chance, words, many, widths, lengths):
    """Return so many random streets between some words."""
    streets = []
    for k in range(many):
        start, end = chance.sample(words, 2)
        streets.append(("abcdefgh"[k], start, end, chance.choice(widths), chance.choice(lengths)))
    return streets


def small_net(chance):
    """Return a random small quarter and town; a crossing and a place may bear one word."""
    gates = chance.choice([["a"], ["a", "b"], ["a", "b"], ["a", "b", "c"]])
    inside = small_streets(chance, ["a", "b", "x"], chance.randint(1, 4), [0, 1, 2, 3], [0, 0, 1, 2])
    outside = small_streets(chance, ["a", "b", "x", "s"], chance.randint(1, 3), [0, 1, 2, 3], [0, 1, 1, 3])
    return Quarter(inside, gates), Town(outside)
