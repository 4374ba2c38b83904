"""Searches over streets.

Streets are tuples (name, start, end, width, length) here, too, but their names and ends
may be anything that can be a key: so the streets of a quarter and those of a net do.
"""


def turned(streets):
    """Return the streets, each with its start and end exchanged."""
    return [(name, end, start, width, length) for name, start, end, width, length in streets]


def wide_streets(streets, width):
    """Return the streets of at least a width."""
    return [street for street in streets if street[3] >= width]


def open_names(streets):
    """Return the names of the streets that are not shut."""
    return [street[0] for street in wide_streets(streets, 1)]


def is_row(streets):
    """Return whether no street is shut and each begins where the one ahead ends."""
    if any([street[3] == 0 for street in streets]):
        return False
    return all([ahead[2] == behind[1] for ahead, behind in zip(streets, streets[1:])])


def shortest_rows(streets, origins):
    """Return a dictionary from the places reached to tuples (length, names).

    They tell the best row of streets, none shut, from any of the origins to the place:
    a shortest one, and one of as few streets as can be among these.
    """
    rows = {origin: (0, []) for origin in origins}
    improved = True
    # No length is below 0, so a best row comes to no place twice, and this ends.
    while improved:
        improved = False
        for name, start, end, width, length in streets:
            if width == 0 or start not in rows:
                continue
            row = (rows[start][0] + length, rows[start][1] + [name])
            if end not in rows or _is_better(row, rows[end]):
                rows[end] = row
                improved = True
    return rows


def _is_better(row, other):
    return (row[0], len(row[1])) < (other[0], len(other[1]))


def least_lengths(streets):
    """Return a dictionary from tuples of two ends to the least length of a row between them.

    Only pairs with a row, none of its streets shut, are keys; also of an end and itself.
    """
    rows = [(start, end, length) for _, start, end, width, length in streets if width > 0]
    return _least_of_rows(rows, _both)


def greatest_widths(streets):
    """Return a dictionary from tuples of two ends to the greatest width of a row between them.

    Only pairs with a row, none of its streets shut, are keys; also of an end and itself.
    """
    # Below 0 the widest is the least, and the narrowest of a row's streets the greatest.
    rows = [(start, end, -width) for _, start, end, width, _ in streets if width > 0]
    least = _least_of_rows(rows, _greater)
    return {pair: -least[pair] for pair in least}


def _both(number, other):
    return number + other


def _greater(number, other):
    return max(number, other)


def _least_of_rows(rows, joined):
    """Return a dictionary from pairs of ends to the least number of rows (start, end, number).

    Two rows one behind the other have the number that joined tells of theirs.
    """
    least = {}
    for start, end, number in rows:
        least[(start, end)] = min(number, least.get((start, end), number))
    for middle in sorted({row[1] for row in rows}):
        into = [(start, number) for (start, end), number in least.items() if end == middle]
        out = [(end, number) for (start, end), number in least.items() if start == middle]
        for start, number in into:
            for end, other in out:
                told = joined(number, other)
                least[(start, end)] = min(told, least.get((start, end), told))
    return least
