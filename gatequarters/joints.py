"""Plans by which quarters are glued, and what is glued by them.

A plan is a tuple (joints, gates); a joint is a dictionary from the gates of a quarter to the
squares at which they come to lie.
"""

from gatequarters.entries import entries_of
from gatequarters.errors import InvalidPlan
from gatequarters.lots import chosen, gate_lots, position_of
from gatequarters.measures import is_of_pairs, shut_by, words_of_lots
from gatequarters.quarters import Quarter, are_gates, crossings_of, is_word
from gatequarters.words import free_words, word_at


def _is_joint(gates, value):
    """Return whether any object is a dictionary from just some gates to unlike words.

    No gates at all stand for one gate of whatever word.
    """
    if not isinstance(value, dict) or len(value) != max(1, len(gates)):
        return False
    if not all([is_word(gate) for gate in value]) or not all([gate in value for gate in gates]):
        return False
    squares = list(value.values())
    return all([is_word(square) for square in squares]) and len(set(squares)) == len(squares)


def check_plan(gate_lists, value):
    """Raise InvalidPlan unless any object is a plan for quarters with some lists of gates."""
    if not isinstance(value, tuple) or len(value) != 2:
        raise InvalidPlan(value)
    joints, gates = value
    if not isinstance(joints, list) or len(joints) != len(gate_lists) or not are_gates(gates):
        raise InvalidPlan(value)
    if not all([_is_joint(own, joint) for own, joint in zip(gate_lists, joints)]):
        raise InvalidPlan(value)


def _squares_of(joints):
    """Return the ascending list of all squares."""
    return sorted({square for joint in joints for square in joint.values()})


def glued_quarter(quarters, plan):
    """Return the quarter that some quarters make by a plan; squares keep their words."""
    joints, gates = plan
    inner = [(at, word) for at, quarter in enumerate(quarters)
             for word in crossings_of(quarter) if word not in joints[at]]
    words = dict(zip(inner, free_words(gates + _squares_of(joints), len(inner))))
    for at, joint in enumerate(joints):
        for gate in joint:
            words[(at, gate)] = joint[gate]
    streets = []
    for at, quarter in enumerate(quarters):
        for _, start, end, width, length in quarter.streets():
            streets.append((word_at(len(streets)), words[(at, start)], words[(at, end)], width, length))
    return Quarter(streets, gates)


def own_plan(quarters, gates):
    """Return the plan for quarters by which each gate lies at the square of its own word."""
    return ([{gate: gate for gate in quarter.gates()} for quarter in quarters], gates)


def _links(measure, tables, joints):
    """Return a street for each entry of some tables of ways or of widths, from square to square."""
    links = []
    for table, joint in zip(tables, joints):
        for start, end in table[measure]:
            told = table[measure][(start, end)]
            if told is not None:
                numbers = (1, told) if measure == "way" else (told, 0)
                links.append((len(links), joint[start], joint[end]) + numbers)
    return links


def _part_sums(table, joint, squares, words):
    """Return a list of tuples (position, entries) for all lots of a part's gates, none and all too.

    The position tells the lot's squares; the entries are those of some measures of lots.
    """
    gates = sorted(joint)
    sums = []
    for position in range(1 << len(gates)):
        lot = tuple(chosen(gates, position))
        # Nothing leaves none of the gates, and all of them.
        entries = [table[word].get(lot, 0) for word in words]
        sums.append((position_of(squares, [joint[gate] for gate in lot]), entries))
    return sums


def _both_sums(sums, others, many):
    """Return what leaves two parts if no street is shut in them, one, and so on up to so many."""
    both = []
    for shut in range(many + 1):
        both.append(min([number + others[shut - at] for at, number in enumerate(sums[:shut + 1])]))
    return both


def _with_part(states, part_sums, common, kept, many):
    """Return the least sums with one part more.

    The states are a dictionary from positions of squares to sums; the part's lot must be the
    same at the squares in common, and only some squares are kept.
    """
    further = {}
    for position in states:
        for own, entries in part_sums:
            if position & common == own & common:
                key = (position | own) & kept
                sums = _both_sums(states[position], entries, many)
                if key in further:
                    sums = [min(one, other) for one, other in zip(sums, further[key])]
                further[key] = sums
    return further


def _joined_lots(tables, joints, gates, many):
    """Return the entries of all lots of the glued quarter's ascending gates."""
    squares = _squares_of(joints)
    lots = [position_of(squares, list(joint.values())) for joint in joints]
    states, seen = {0: [0]}, 0
    for at, joint in enumerate(joints):
        # A square that is no gate and in no later part is settled behind this one.
        kept = position_of(squares, gates + _squares_of(joints[at + 1:]))
        sums = _part_sums(tables[at], joint, squares, words_of_lots(many))
        states = _with_part(states, sums, lots[at] & seen, kept, many)
        seen = seen | lots[at]
    return {lot: states[position_of(squares, lot)][-1] for lot in gate_lots(gates)}


def joined_entries(measure, tables, plan):
    """Return the table of the glued quarter by a measure, from the tables of its parts."""
    joints, gates = plan
    if is_of_pairs(measure):
        return entries_of(_links(measure, tables, joints), sorted(gates), measure)
    return _joined_lots(tables, joints, sorted(gates), shut_by(measure))
