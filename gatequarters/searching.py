"""Searches over streets.

Streets are tuples (name, start, end, width, length) here, too, but their names and ends
may be anything that can be a key: so the streets of a quarter and those of a net do.
"""


def turned(streets):
    """Return the streets, each with its start and end exchanged."""
    return [(name, end, start, width, length) for name, start, end, width, length in streets]


def wide_streets(streets, width):
    """Return the streets of at least a width."""
    return [street for street in streets if street[3] >= width]


def is_row(streets):
    """Return whether no street is shut and each begins where the one ahead ends."""
    if any([street[3] == 0 for street in streets]):
        return False
    return all([ahead[2] == behind[1] for ahead, behind in zip(streets, streets[1:])])


def shortest_rows(streets, origins):
    """Return a dictionary from the places reached to tuples (length, names).

    They tell the best row of streets, none shut, from any of the origins to the place:
    a shortest one, and one of as few streets as can be among these.
    """
    rows = {origin: (0, []) for origin in origins}
    improved = True
    # No length is below 0, so a best row comes to no place twice, and this ends.
    while improved:
        improved = False
        for name, start, end, width, length in streets:
            if width == 0 or start not in rows:
                continue
            row = (rows[start][0] + length, rows[start][1] + [name])
            if end not in rows or _is_better(row, rows[end]):
                rows[end] = row
                improved = True
    return rows


def _is_better(row, other):
    return (row[0], len(row[1])) < (other[0], len(other[1]))
