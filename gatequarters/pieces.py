"""Pieces of texts: numbers, and streets, quarters and changes as lines of pieces.

What is read here may be written otherwise than a writer writes it; whoever reads holds the
writer's text against what was passed.
"""

from gatequarters.quarters import Quarter, are_gates, are_streets, is_change, is_street

_FIGURES = "0123456789"
_NUMBERED = ("width", "length")


def count_in(piece):
    """Return the count that a piece tells in figures, None if it tells none."""
    if not piece or not all([sign in _FIGURES for sign in piece]):
        return None
    return int(piece)


def whole_in(piece):
    """Return the whole number that a piece tells in figures, None if it tells none."""
    count = count_in(piece[1:] if piece.startswith("-") else piece)
    return -count if count is not None and piece.startswith("-") else count


def lines_of(text):
    """Return the lines of a text; an empty one has none."""
    return text.split("\n") if text else []


def text_of(lines):
    """Return the text of some lines."""
    return "\n".join(lines)


def street_line(street):
    """Return the line of a street."""
    name, start, end, width, length = street
    return f"{name} {start} {end} {width} {length}"


def street_in(line):
    """Return the street that a line tells, None if it tells none."""
    pieces = line.split(" ")
    street = tuple(pieces[:3] + [count_in(piece) for piece in pieces[3:]])
    return street if is_street(street) else None


def quarter_lines(quarter):
    """Return the lines of a quarter."""
    lines = [street_line(street) for street in quarter.streets()]
    return lines + [" ".join(["gates"] + quarter.gates())]


def quarter_in(lines):
    """Return the quarter that some lines tell, None if they tell none."""
    if not lines:
        return None
    streets = [street_in(line) for line in lines[:-1]]
    pieces = lines[-1].split(" ")
    if pieces[0] != "gates" or not are_gates(pieces[1:]) or not are_streets(streets):
        return None
    return Quarter(streets, pieces[1:])


def change_line(change):
    """Return the line of a change that is one by its form."""
    if change[0] == "put":
        return f"put {street_line(change[1])}"
    return " ".join([str(piece) for piece in change])


def change_in(line):
    """Return the change that a line tells, None if it tells none."""
    word, _, rest = line.partition(" ")
    pieces = rest.split(" ")
    change = (word,) + tuple(pieces)
    if word == "put":
        change = (word, street_in(rest))
    elif word in _NUMBERED:
        change = (word, pieces[0]) + tuple([count_in(piece) for piece in pieces[1:]])
    return change if is_change(change) else None
