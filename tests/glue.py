"""What the tests of gluing share: wholes made street by street, and drawn parts with plans."""

import itertools
from collections import Counter

from gatequarters.quarters import Quarter
from tests.support import lots_by_sight, small_streets, sublists_of, words_of


def arcs_of(quarter):
    """Return the streets of a quarter without their names."""
    return [street[1:] for street in quarter.streets()]


def arcs_glued(quarters, joints):
    """Return the streets of glued quarters, from (square) or (part, crossing) to such a place."""
    arcs = []
    for at, quarter in enumerate(quarters):
        for _, start, end, width, length in quarter.streets():
            ends = [joints[at][word] if word in joints[at] else (at, word) for word in (start, end)]
            arcs.append((ends[0], ends[1], width, length))
    return arcs


def ends_of_arcs(arcs):
    """Return the list of all places of some arcs."""
    return list(dict.fromkeys([arc[0] for arc in arcs] + [arc[1] for arc in arcs]))


def same_shape(arcs, others, fixed):
    """Return whether two lists of arcs are the same but for the words of places that are not fixed."""
    free = [place for place in ends_of_arcs(arcs) if place not in fixed]
    words = [place for place in ends_of_arcs(others) if place not in fixed]
    if len(free) != len(words) or len(arcs) != len(others):
        return False
    wanted = Counter(others)
    for some in itertools.permutations(words):
        names = dict(zip(free, some))
        if Counter((names.get(arc[0], arc[0]), names.get(arc[1], arc[1])) + tuple(arc[2:]) for arc in arcs) == wanted:
            return True
    return False


def quarter_of_arcs(arcs, gates):
    """Return a quarter of some arcs; places that are no gates get words of their own."""
    inner = [place for place in ends_of_arcs(arcs) if place not in gates]
    names = {place: "q" + "abcdefghijklmnopqrstuvwxyz"[k] + "q" for k, place in enumerate(inner)}
    streets = [("s" + "abcdefghijklmnopqrstuvwxyz"[k], names.get(start, start), names.get(end, end), width, length)
               for k, (start, end, width, length) in enumerate(arcs)]
    return Quarter(streets, gates)


def whole_by_sight(quarters, plan):
    """Return the glued quarter, made street by street."""
    return quarter_of_arcs(arcs_glued(quarters, plan[0]), sorted(plan[1]))


def drawn_parts(chance, most_gates=4, most_streets=3):
    """Return a list of one to three random quarters and a plan of at most five squares for them."""
    quarters, joints = [], []
    squares = list("klmno")[:chance.randint(1, 5)]
    for _ in range(chance.randint(1, 3)):
        gates = list("abcd")[:chance.randint(1, min(most_gates, len(squares)))]
        words = sorted(set(gates) | set(chance.choice([["a", "x"], ["a", "x", "k"], ["a", "b"]])))
        streets = small_streets(chance, words, chance.randint(0, most_streets), [0, 1, 1, 2, 3], [0, 1, 2])
        quarters.append(Quarter(streets, gates))
        joint = list(zip(gates, chance.sample(squares, len(gates))))
        joints.append(dict(chance.sample(joint, len(joint))))
    gates = chance.sample(squares, chance.randint(1, len(squares)))[:4]
    if chance.random() < 0.2:
        gates.append("alone")
    return quarters, (joints, gates)


def drawn_table(chance, gates, measure):
    """Return a random dictionary that is a table by its form, of some quarter or of none."""
    if measure in ("way", "widest"):
        values = [None, 0, 1, 2, 5] if measure == "way" else [0, 1, 2, 5]
        return {(start, goal): chance.choice(values) for start in gates for goal in gates if start != goal}
    return {lot: chance.choice([0, 1, 2, 3, 7]) for lot in lots_by_sight(gates)}


def least_over_squares(tables, plan, shut):
    """Return the entries of lots of the whole by all lots of squares and all parts of shut streets."""
    joints, gates = plan
    squares = sorted({square for joint in joints for square in joint.values()} | set(gates))
    words = ["most", "shut1", "shut2"]
    told = {}
    for some in sublists_of(squares):
        lot = tuple(gate for gate in sorted(gates) if gate in some)
        if not 0 < len(lot) < len(gates):
            continue
        for numbers in itertools.product(range(shut + 1), repeat=len(tables)):
            if sum(numbers) == shut:
                total = 0
                for table, joint, number in zip(tables, joints, numbers):
                    within = tuple(gate for gate in sorted(joint) if joint[gate] in some)
                    total += 0 if len(within) in (0, len(joint)) else table[words[number]][within]
                told[lot] = min(total, told.get(lot, total))
    return {lot: told[lot] for lot in sorted(told)}


def crossings_without_streets(quarter):
    """Return the gates of a quarter at which no street begins or ends."""
    return [word for word in words_of(quarter) if word not in ends_of_arcs(arcs_of(quarter))]
