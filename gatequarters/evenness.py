"""Quarters around which two towns are unlike."""

from itertools import combinations

from gatequarters.lots import gate_lots
from gatequarters.quarters import Quarter
from gatequarters.searching import shortest_rows
from gatequarters.sides import town_cuts
from gatequarters.streams import width_sum
from gatequarters.words import word_at


def _quarter_of(steps, gates, width):
    """Return the quarter with a street of a width, and of length 0, for each step (start, end)."""
    streets = [(word_at(at), start, end, width, 0) for at, (start, end) in enumerate(steps)]
    return Quarter(streets, gates)


def _ring(gates):
    """Return the steps that lead from each gate to all others, round about."""
    return list(zip(gates, gates[1:] + gates[:1])) if len(gates) > 1 else []


def _lot_steps(gates, lot):
    """Return the steps that leave each lot of gates but one."""
    inner = [gate for gate in gates if gate in lot]
    outer = [gate for gate in gates if gate not in lot]
    return _ring(inner) + _ring(outer) + [(outer[0], inner[0])]


def _unlike_lot(gates, cuts, bound):
    """Return the first lot for which what two towns let through at most is unlike, None if none is.

    The empty lot comes first, and stands for all gates as well; bound is more than any cut.
    """
    least = [min(cut.get((), bound), cut.get(tuple(gates), bound)) for cut in cuts]
    for lot in [()] + gate_lots(gates):
        seen = [min(low, cut.get(lot, bound)) for low, cut in zip(least, cuts)]
        if seen[0] != seen[1]:
            return lot
    return None


def heard_by_most(gates, towns, start, goal):
    """Return a quarter around which two towns are unlike by "most", None if there is none."""
    cuts = [town_cuts(gates, town, start, goal) for town in towns]
    bound = 1 + sum([width_sum(town.streets()) for town in towns])
    lot = _unlike_lot(gates, cuts, bound)
    if lot is None:
        return None
    return _quarter_of(_lot_steps(gates, lot) if lot else _ring(gates), gates, bound)


def _length_with(quarter, town, start, goal):
    """Return the least length of a way in the net of a quarter without inner crossings and a town."""
    found = shortest_rows(quarter.streets() + town.streets(), [start]).get(goal)
    return None if found is None else found[0]


def heard_by_way(gates, towns, start, goal):
    """Return a quarter around which two towns are unlike by "way", None if there is none.

    A shortest way goes through the quarter from gate to gate, never twice by one of them, so
    quarters of streets without a common gate are enough to look at.
    """
    pairs = [(begin, end) for begin in gates for end in gates if begin != end]
    for many in range(len(gates) // 2 + 1):
        for steps in combinations(pairs, many):
            used = [gate for step in steps for gate in step]
            if len(set(used)) == len(used):
                quarter = _quarter_of(list(steps), gates, 1)
                if len({_length_with(quarter, town, start, goal) for town in towns}) > 1:
                    return quarter
    return None
