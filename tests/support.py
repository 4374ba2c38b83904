"""What several tests share: odd objects, small nets, and plain searches through them."""

import itertools

from gatequarters.city import City
from gatequarters.errors import GateError, InvalidName
from gatequarters.quarters import Quarter, Town

ONE = Quarter([("main", "in", "out", 2, 1)], ["in", "out"])
TWO = Quarter([("left", "in", "out", 1, 1), ("right", "in", "out", 1, 1)], ["in", "out"])
LANE = Quarter(
    [("ab", "a", "b", 2, 1), ("ax", "a", "x", 1, 1), ("yb", "y", "b", 3, 0), ("ba", "b", "a", 0, 1)],
    ["b", "a", "c"],
)
HOME = Town([("go", "home", "in", 5, 1), ("come", "out", "shop", 5, 2)])


def odd_objects():
    """Return new objects of every kind that a function may be handed, right and wrong ones."""
    street = ("main", "in", "out", 2, 1)
    return [
        None, True, False, 0, 1, -1, 7, 10 ** 29, -10 ** 29,
        "", "main", "in", "Main", "ninechars", "a b", "a1", "a_b",
        [], [None], [[]], ["main"], ["in", "in"], ["in", 1], [street], [street, street], [list(street)],
        (), (None,), ("main",), ("in", "out"), street, ("put", street), ("out", "main"), ("quarter", "main"),
        {}, {None: None}, {"main": street}, {"in": "out"}, {1: True}, {("gate", "in"): 0},
        [("out", "main")], [("quarter", "main")], (("out", "main"),), {0: ("out", "main")}, {True: "in"},
        Quarter([street], ["in", "out"]), Quarter([], ["z"]), Town([street]), Town([]),
        GateError(), InvalidName("main"), [Quarter([], ["z"])], (Town([]),), {"in": Town([])}, City(["in"]),
        (0,), (0, 0), (1, -1), (True, -1), [0], [True], [[0]], [("undo",)], ("undo",), ([], ["in"]),
        [[[[[[[[[[[[[[[[[[[[[[[[[[[[[[[[[[[[[[[[]]]]]]]]]]]]]]]]]]]]]]]]]]]]]]]]]]]]]]]],
    ]


def plain(value):
    """Return a value as text in which True and 1, lists and tuples, and orders of keys differ."""
    if isinstance(value, Quarter):
        return f"Quarter({value.streets()}, {value.gates()})"
    if isinstance(value, Town):
        return f"Town({value.streets()})"
    if isinstance(value, City):
        return f"City({value.gates()}, {plain(value.promises())}, {plain(value.log())}, {plain(value.whole())})"
    if isinstance(value, list):
        return "[" + ", ".join(plain(part) for part in value) + "]"
    if isinstance(value, tuple):
        return "(" + ", ".join(plain(part) for part in value) + ",)"
    if isinstance(value, dict):
        return "{" + ", ".join(plain(key) + ": " + plain(value[key]) for key in value) + "}"
    return repr(value)


def net_arcs(quarter, town):
    """Return a dictionary from the streets of a net to (start, end, width, length)."""
    gates = quarter.gates()
    arcs = {}
    for side, owner in (("quarter", quarter), ("town", town)):
        for name, start, end, width, length in owner.streets():
            ends = [("gate", word) if word in gates else (side, word) for word in (start, end)]
            arcs[(side, name)] = (ends[0], ends[1], width, length)
    return arcs


def all_places(quarter, town):
    """Return the ascending list of the places of a net."""
    places = {("gate", gate) for gate in quarter.gates()}
    for start, end, _, _ in net_arcs(quarter, town).values():
        places |= {start, end}
    return sorted(places)


def place_of(quarter, word):
    """Return the place of a net that a word asked of means."""
    return ("gate", word) if word in quarter.gates() else ("town", word)


def walks(arcs, start, most):
    """Yield every walk of one to so many arcs from a start, none shut, as lists of names."""
    rows = [([], start)]
    for _ in range(most):
        longer = []
        for row, at in rows:
            for name in arcs:
                if arcs[name][0] == at and arcs[name][2] > 0:
                    longer.append((row + [name], arcs[name][1]))
        yield from longer
        rows = longer


def ways_by_search(quarter, town, start, goal, most):
    """Return all ways of at most so many streets, as tuples (length, streets, width, names)."""
    arcs = net_arcs(quarter, town)
    target = place_of(quarter, goal)
    ways = []
    for row, at in walks(arcs, place_of(quarter, start), most):
        if at == target:
            length = sum(arcs[name][3] for name in row)
            ways.append((length, len(row), min(arcs[name][2] for name in row), row))
    return ways


def lists_of(things, most):
    """Yield every list of at most so many of some things, doubles among them."""
    for size in range(most + 1):
        for row in itertools.product(things, repeat=size):
            yield list(row)


def sublists_of(things):
    """Yield every list of some of the things, in their order."""
    for size in range(len(things) + 1):
        for row in itertools.combinations(things, size):
            yield list(row)


def small_streets(chance, words, many, widths, lengths):
    """Return so many random streets between some words."""
    streets = []
    for k in range(many):
        start, end = chance.sample(words, 2)
        streets.append(("abcdefgh"[k], start, end, chance.choice(widths), chance.choice(lengths)))
    return streets


def small_net(chance):
    """Return a random small quarter and town; a crossing and a place may bear one word."""
    gates = chance.choice([["a"], ["a", "b"], ["a", "b"], ["a", "b", "c"]])
    inside = small_streets(chance, ["a", "b", "x"], chance.randint(1, 4), [0, 1, 2, 3], [0, 0, 1, 2])
    outside = small_streets(chance, ["a", "b", "x", "s"], chance.randint(1, 3), [0, 1, 2, 3], [0, 1, 1, 3])
    return Quarter(inside, gates), Town(outside)


def narrow_net(chance):
    """Return a random quarter and town of at most six streets, of widths up to 2, and two places."""
    gates = chance.choice([["a"], ["a", "b"], ["a", "b"], ["a", "b", "c"]])
    inside = small_streets(chance, ["a", "b", "x"], chance.randint(0, 3), [0, 1, 1, 2], [0, 1, 2])
    outside = small_streets(chance, ["a", "b", "x", "s"], chance.randint(1, 3), [0, 1, 1, 2], [0, 1, 3])
    quarter, town = Quarter(inside, gates), Town(outside)
    words = sorted({street[1] for street in outside} | {street[2] for street in outside} | set(gates))
    start, goal = chance.sample(words, 2)
    return (quarter, town, start, goal)


def great_net(chance):
    """Return a random quarter and town as great as the document lets, and two places."""
    gates = list("abcde")[:chance.randint(1, 5)]
    words = list("abcdefgh")
    quarter = Quarter(named_streets(chance, words, 14, 20000), gates)
    town = Town(named_streets(chance, ["a", "b", "c", "s", "t", "u"], 10, 1000))
    words = sorted({street[1] for street in town.streets()} | {street[2] for street in town.streets()} | set(gates))
    start, goal = chance.sample(words, 2)
    return (quarter, town, start, goal)


def named_streets(chance, words, many, greatest):
    """Return so many random streets of widths and lengths of at most a number."""
    streets = []
    for k in range(many):
        start, end = chance.sample(words, 2)
        width = chance.choice([0, 1, 2, chance.randint(0, greatest), greatest])
        streets.append(("abcdefghijklmnopqrstuvwxyz"[k], start, end, width, chance.randint(0, greatest)))
    return streets


def balance(arcs, numbers, place):
    """Return what goes out of a place less what comes in."""
    out = sum(numbers[name] for name in arcs if arcs[name][0] == place)
    return out - sum(numbers[name] for name in arcs if arcs[name][1] == place)


def loads(arcs):
    """Yield every dictionary from the arcs to numbers from 0 to their widths."""
    for numbers in itertools.product(*[range(arcs[name][2] + 1) for name in arcs]):
        yield dict(zip(arcs, numbers))


def flows_by_search(quarter, town, start, goal):
    """Return all flows between two places, as tuples (amount, flow)."""
    arcs = net_arcs(quarter, town)
    origin, target = place_of(quarter, start), place_of(quarter, goal)
    others = [place for place in all_places(quarter, town) if place not in (origin, target)]
    found = []
    for numbers in loads(arcs):
        amount = balance(arcs, numbers, origin)
        if amount >= 0 and all(balance(arcs, numbers, place) == 0 for place in others):
            found.append((amount, numbers))
    return found


def cuts_by_search(quarter, town, start, goal):
    """Return all cuts between two places, as tuples (width, cut)."""
    arcs = net_arcs(quarter, town)
    origin, target = place_of(quarter, start), place_of(quarter, goal)
    cuts = [cut for cut in sublists_of(all_places(quarter, town)) if origin in cut and target not in cut]
    return [(sum(arc[2] for arc in arcs.values() if arc[0] in cut and arc[1] not in cut), cut) for cut in cuts]


def most_by_search(quarter, town, start, goal):
    """Return the least width of all cuts between two places."""
    return min(width for width, _ in cuts_by_search(quarter, town, start, goal))


def with_widths(quarter, widths):
    """Return a quarter with other widths, by the names of its streets."""
    streets = [(name, start, end, widths.get(name, width), length)
               for name, start, end, width, length in quarter.streets()]
    return Quarter(streets, quarter.gates())


def lots_by_sight(gates):
    """Return the ascending list of the lots of gates."""
    return sorted(tuple(some) for some in sublists_of(sorted(gates)) if 0 < len(some) < len(gates))


def words_of(quarter):
    """Return the ascending list of a quarter's crossings."""
    words = set(quarter.gates())
    for _, start, end, _, _ in quarter.streets():
        words |= {start, end}
    return sorted(words)


def sides_by_search(quarter, lot):
    """Return all sides of a lot, as tuples (width, side)."""
    sides = []
    for side in sublists_of(words_of(quarter)):
        if tuple(gate for gate in quarter.gates() if gate in side) == lot:
            leaving = [street[3] for street in quarter.streets() if street[1] in side and street[2] not in side]
            sides.append((sum(leaving), side))
    return sides


def shuttings(quarter, many):
    """Return the quarter with each so many of its streets shut, all if it has fewer."""
    names = [street[0] for street in quarter.streets()]
    lots = itertools.combinations(names, min(many, len(names)))
    return [with_widths(quarter, {name: 0 for name in some}) for some in lots]


def pair_by_search(streets, start, goal, measure):
    """Return the least length or the greatest width of a way by some streets, from all short walks."""
    arcs = {street[0]: street[1:] for street in streets}
    best = None
    for row, at in walks(arcs, start, len({street[1] for street in streets})):
        if at == goal:
            numbers = [arcs[name][3] if measure == "way" else arcs[name][2] for name in row]
            told = sum(numbers) if measure == "way" else min(numbers)
            if best is None or (told < best if measure == "way" else told > best):
                best = told
    return 0 if best is None and measure == "widest" else best


def table_by_search(quarter, measure):
    """Return the table of a quarter from all its sides, shuttings or walks."""
    gates = quarter.gates()
    if measure in ("way", "widest"):
        return {(start, goal): pair_by_search(quarter.streets(), start, goal, measure)
                for start in gates for goal in gates if start != goal}
    shut = shuttings(quarter, {"most": 0, "shut1": 1, "shut2": 2}[measure])
    return {lot: min(min(sides_by_search(left, lot))[0] for left in shut) for lot in lots_by_sight(gates)}


def asked_by_search(quarter, measure, town, start, goal):
    """Return a measure between two places of a net from all walks, or all cuts and shuttings."""
    if measure in ("way", "widest"):
        arcs = net_arcs(quarter, town)
        streets = [(name, *arcs[name]) for name in arcs]
        return pair_by_search(streets, place_of(quarter, start), place_of(quarter, goal), measure)
    shut = shuttings(quarter, {"most": 0, "shut1": 1, "shut2": 2}[measure])
    return min(most_by_search(left, town, start, goal) for left in shut)


MEASURES = ["most", "shut1", "shut2", "way", "widest"]


def small_quarter(chance, gates, most):
    """Return a random quarter of at most so many streets between the gates and two more crossings."""
    words = sorted(set(gates) | {"x", "y"})
    return Quarter(small_streets(chance, words, chance.randint(0, most), [0, 1, 1, 2, 3], [0, 1, 1, 2]), gates)


def small_town(chance, words, most):
    """Return a random town of at most so many streets between some words."""
    return Town(small_streets(chance, words, chance.randint(0, most), [0, 1, 2, 3, 9], [0, 1, 2, 5]))


def two_places(chance, gates, town):
    """Return two unlike places that are gates or a town's; the gates are at least two."""
    words = set(gates)
    for _, start, end, _, _ in town.streets():
        words |= {start, end}
    return chance.sample(sorted(words), 2)
