"""Which cut tables there can be, and quarters of few crossings that have them."""

from gatequarters.counts import is_count
from gatequarters.lots import gate_lots
from gatequarters.quarters import Quarter
from gatequarters.words import free_words, word_at


def _entry(gates, table, within):
    """Return the entry of the gates that are within; none and all of them count 0."""
    return table.get(tuple([gate for gate in gates if gate in within]), 0)


def rows_that_bar(gates, table):
    """Return the ascending list of the pairs of lots that no quarter's table can have."""
    lots = gate_lots(gates)
    rows = []
    for at, lot in enumerate(lots):
        for other in lots[at + 1:]:
            both = [gate for gate in lot if gate in other]
            either = _entry(gates, table, lot + other)
            if table[lot] + table[other] < _entry(gates, table, both) + either:
                rows.append((lot, other))
    return rows


def _surplus(gates, table):
    """Return by how much the lots of two of three gates have more than those of one."""
    lots = gate_lots(gates)
    pairs = sum([table[lot] for lot in lots if len(lot) == 2])
    return pairs - sum([table[lot] for lot in lots if len(lot) == 1])


def inner_crossings(gates, table):
    """Return with how few further crossings a quarter has a table of at most three gates."""
    return 1 if len(gates) == 3 and _surplus(gates, table) != 0 else 0


def gate_pairs(gates):
    """Return the ascending list of the tuples of two unlike gates."""
    return [(start, goal) for start in gates for goal in gates if start != goal]


def _mirrored_table(gates, table):
    """Return the table of the mirrored quarter: each lot has the entry of the gates outside it."""
    return {lot: table[tuple([gate for gate in gates if gate not in lot])] for lot in gate_lots(gates)}


def _rays(gates, table, surplus):
    """Return the counts of a star "out" of three gates that takes up a surplus."""
    rays = {}
    left = surplus
    for gate in gates:
        others = tuple([other for other in gates if other != gate])
        rays[gate] = max(0, surplus - table[others])
        left -= rays[gate]
    # The rest goes where there is room; there is enough in a table that nothing bars.
    for gate in gates:
        more = min(left, table[(gate,)] - rays[gate])
        rays[gate] = rays[gate] + more
        left -= more
    return rays


def _even_streets(gates, table):
    """Return the counts of streets from gate to gate that have a table of three gates without surplus."""
    one, two, three = gates
    # What goes from the first gate to the second one settles all others; it is as much as can be.
    count = min(table[(one,)], table[(one, three)], table[(one,)] + table[(two,)] - table[(one, two)])
    first = table[(one,)] - count
    last = table[(one, three)] - count
    second = table[(one, two)] - first
    return {
        (one, two): count, (one, three): first, (two, one): table[(two,)] - second,
        (two, three): second, (three, one): table[(three,)] - last, (three, two): last,
    }


def _parts_out(gates, table):
    """Return the parts of a table of three gates whose surplus is not below 0."""
    surplus = _surplus(gates, table)
    rays = _rays(gates, table, surplus)
    rest = {lot: table[lot] - sum([rays[gate] for gate in lot]) for lot in gate_lots(gates)}
    return (_even_streets(gates, rest), ("out", rays) if surplus > 0 else None)


def parts_told(gates, table):
    """Return the tuple (streets, star) of a table of three ascending gates that nothing bars."""
    if _surplus(gates, table) >= 0:
        return _parts_out(gates, table)
    streets, star = _parts_out(gates, _mirrored_table(gates, table))
    return ({pair: streets[(pair[1], pair[0])] for pair in gate_pairs(gates)}, ("in", star[1]))


def _are_numbers(value, keys):
    """Return whether any object is a dictionary from just some keys to counts."""
    if not isinstance(value, dict) or len(value) != len(keys):
        return False
    return all([key in value and is_count(value[key]) for key in keys])


def _is_star(gates, value):
    """Return whether any object is a tuple of "out" or "in" and counts of three gates, not all 0."""
    if not isinstance(value, tuple) or len(value) != 2 or value[0] not in ("out", "in"):
        return False
    return _are_numbers(value[1], gates) and any([value[1][gate] > 0 for gate in gates])


def _told_by(gates, streets, star, lot):
    """Return what streets from gate to gate and a star tell for a lot."""
    told = sum([streets[(start, goal)] for start, goal in streets if start in lot and goal not in lot])
    if star is None:
        return told
    return told + sum([star[1][gate] for gate in gates if (gate in lot) == (star[0] == "out")])


def are_parts_of(gates, table, value):
    """Return whether any object is a tuple (streets, star) that tells a table of three gates."""
    if not isinstance(value, tuple) or len(value) != 2:
        return False
    streets, star = value
    if not _are_numbers(streets, gate_pairs(gates)) or not (star is None or _is_star(gates, star)):
        return False
    return all([_told_by(gates, streets, star, lot) == table[lot] for lot in table])


def _star_streets(gates, star):
    """Return tuples (start, end, width) of the streets of a star, through one crossing more."""
    middle = free_words(gates, 1)[0]
    # What comes from the crossing, or goes to it, never holds a star back.
    wide = sum(list(star[1].values()))
    if star[0] == "out":
        return [(gate, middle, star[1][gate]) for gate in gates] + [(middle, gate, wide) for gate in gates]
    return [(middle, gate, star[1][gate]) for gate in gates] + [(gate, middle, wide) for gate in gates]


def quarter_with(gates, table):
    """Return a quarter of few crossings with a table of at most three gates that nothing bars."""
    if len(gates) < 3:
        rows = [(start, goal, table[(start,)]) for start, goal in gate_pairs(gates)]
    else:
        streets, star = parts_told(gates, table)
        rows = [(start, goal, streets[(start, goal)]) for start, goal in streets]
        rows = rows + ([] if star is None else _star_streets(gates, star))
    rows = [row for row in rows if row[2] > 0]
    return Quarter([(word_at(at), start, end, width, 0) for at, (start, end, width) in enumerate(rows)], gates)


def lone_quarters(gates, lot):
    """Return two quarters with two or more gates whose tables of "most" are unlike at a lot alone.

    From the lot to the other gates leads one street, which holds back only what all of the lot
    sends to all of the others.
    """
    others = [gate for gate in gates if gate not in lot]
    most = max(len(lot), len(others))
    start, end = free_words(gates, 2)
    rows = [(gate, start, 1) for gate in lot[1:]] + [(lot[0], start, most - len(lot) + 1)]
    rows = rows + [(end, gate, 1) for gate in others[1:]] + [(end, others[0], most - len(others) + 1)]
    streets = [(word_at(at), begin, goal, width, 0) for at, (begin, goal, width) in enumerate(rows)]
    return tuple([Quarter(streets + [(word_at(len(rows)), start, end, width, 0)], gates)
                  for width in (most - 1, most)])
