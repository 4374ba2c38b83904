"""Towns whose streets go from gate to gate, and what they see of tables of lots.

A step is a tuple (start, end) of two gates, for a street so wide that a lot of gates which
it leaves does not count.
"""

from itertools import combinations

from gatequarters.lots import gate_lots
from gatequarters.quarters import Town
from gatequarters.streams import width_sum
from gatequarters.words import word_at


def wide_town(steps, quarters):
    """Return the town with a street for each step, wider than all of some quarters together."""
    width = 1 + sum([width_sum(quarter.streets()) for quarter in quarters])
    return Town([(word_at(at), start, end, width, 0) for at, (start, end) in enumerate(steps)])


def holding_notice(gates, lot, quarters):
    """Return a tuple (town, start, goal) whose answer for some quarters is their entry at a lot.

    Its steps lead from one gate of the lot to the others, and to one other gate from the rest.
    """
    others = [gate for gate in gates if gate not in lot]
    steps = [(lot[0], gate) for gate in lot[1:]] + [(gate, others[0]) for gate in others[1:]]
    return (wide_town(steps, quarters), lot[0], others[0])


def _pair_apart(lots, gates, tables):
    """Return two gates between which some lots tell two tables apart, None if there are none."""
    for start in gates:
        for goal in gates:
            between = [lot for lot in lots if start in lot and goal not in lot]
            seen = [min([table[lot] for lot in between], default=0) for table in tables]
            if seen[0] != seen[1]:
                return (start, goal)
    return None


def _steps_apart(lots, pairs, gates, tables, many):
    """Return a tuple (steps, start, goal) with just so many steps of some pairs.

    Between these gates the lots that the steps do not leave tell two tables apart; None if
    there is none.
    """
    if many == 0:
        pair = _pair_apart(lots, gates, tables)
        return None if pair is None else ([], pair[0], pair[1])
    for at, (begin, end) in enumerate(pairs):
        further = [lot for lot in lots if begin not in lot or end in lot]
        if len(further) < len(lots):
            found = _steps_apart(further, pairs[at + 1:], gates, tables, many - 1)
            if found is not None:
                return ([(begin, end)] + found[0], found[1], found[2])
    return None


def fewest_steps(gates, tables):
    """Return a tuple (steps, start, goal) of fewest steps that tells two unlike tables apart."""
    pairs = [(begin, end) for begin in gates for end in gates if begin != end]
    many = 0
    found = _steps_apart(gate_lots(gates), pairs, gates, tables, many)
    # At the latest the steps of a holding notice, two less than there are gates, do.
    while found is None:
        many += 1
        found = _steps_apart(gate_lots(gates), pairs, gates, tables, many)
    return found


def _least_entry(lots, within, some, table):
    """Return the least entry of the lots that hold just a part of some gates."""
    return min([table[lot] for lot in lots if [gate for gate in some if gate in lot] == list(within)])


def _tell_apart(gates, some, tables):
    """Return whether a town that uses just some of the gates can tell two tables apart."""
    lots = gate_lots(gates)
    for within in gate_lots(some):
        seen = [_least_entry(lots, within, some, table) for table in tables]
        if seen[0] != seen[1]:
            return True
    return False


def fewest_gates(gates, tables):
    """Return the least number of gates that tell two tables apart, None if none do."""
    for many in range(2, len(gates) + 1):
        for some in combinations(gates, many):
            if _tell_apart(gates, some, tables):
                return many
    return None
