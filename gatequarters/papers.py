"""Texts of quarters, towns, changes, tables and flows, and what they are texts of."""

from gatequarters.counts import is_count, is_whole
from gatequarters.errors import InvalidChange, InvalidFlow, InvalidTable, InvalidText
from gatequarters.pieces import change_in, change_line, count_in, lines_of, quarter_in, quarter_lines
from gatequarters.pieces import street_in, street_line, text_of, whole_in
from gatequarters.quarters import Town, are_streets, check_quarter, check_town, is_change, is_word

_SIDES = ("quarter", "town")


def _check_text(value):
    """Raise InvalidText unless any object is a string."""
    if not isinstance(value, str):
        raise InvalidText(value)


def quarter_text(quarter):
    """Return the text of a quarter."""
    check_quarter(quarter)
    return text_of(quarter_lines(quarter))


def read_quarter(text):
    """Return the quarter that has a text."""
    _check_text(text)
    quarter = quarter_in(lines_of(text))
    if quarter is None or quarter_text(quarter) != text:
        raise InvalidText(text)
    return quarter


def town_text(town):
    """Return the text of a town."""
    check_town(town)
    return text_of([street_line(street) for street in town.streets()])


def read_town(text):
    """Return the town that has a text."""
    _check_text(text)
    streets = [street_in(line) for line in lines_of(text)]
    if not are_streets(streets) or town_text(Town(streets)) != text:
        raise InvalidText(text)
    return Town(streets)


def change_text(change):
    """Return the text of a change."""
    if not is_change(change):
        raise InvalidChange(change)
    return change_line(change)


def read_change(text):
    """Return the change that has a text."""
    _check_text(text)
    change = change_in(text)
    if change is None or change_text(change) != text:
        raise InvalidText(text)
    return change


def _is_written_table(value):
    """Return whether any object is a dictionary that has a text as a table."""
    if not isinstance(value, dict) or not all([isinstance(key, tuple) and key for key in value]):
        return False
    pieces = [piece for key in value for piece in key]
    if not all([is_word(piece) for piece in pieces]) and not all([is_whole(piece) for piece in pieces]):
        return False
    return all([told is None or is_count(told) for told in value.values()])


def _table_line(key, told):
    """Return the line of an entry of a table."""
    number = "none" if told is None else str(told)
    return " ".join([str(piece) for piece in key] + ["=", number])


def table_text(table):
    """Return the text of a dictionary from tuples of words, or of whole numbers."""
    if not _is_written_table(table):
        raise InvalidTable(table)
    return text_of([_table_line(key, table[key]) for key in sorted(table)])


def _piece_in(piece):
    """Return the word or the whole number of a piece of a key."""
    number = whole_in(piece)
    return piece if number is None else number


def read_table(text):
    """Return the dictionary that has a text as a table, its keys ascending."""
    _check_text(text)
    table = {}
    for line in lines_of(text):
        key, _, told = line.partition(" = ")
        table[tuple([_piece_in(piece) for piece in key.split(" ")])] = count_in(told)
    # What is left out or put in while it is read makes another text.
    if not _is_written_table(table) or table_text(table) != text:
        raise InvalidText(text)
    return table


def _is_written_flow(value):
    """Return whether any object is a dictionary that has a text as a flow."""
    if not isinstance(value, dict):
        return False
    for key in value:
        if not isinstance(key, tuple) or len(key) != 2 or key[0] not in _SIDES or not is_word(key[1]):
            return False
    return all([is_count(number) for number in value.values()])


def flow_text(flow):
    """Return the text of a dictionary from streets of a net to counts."""
    if not _is_written_flow(flow):
        raise InvalidFlow(flow)
    return text_of([f"{side} {name} {flow[(side, name)]}" for side, name in sorted(flow)])


def read_flow(text):
    """Return the dictionary that has a text as a flow, its keys ascending."""
    _check_text(text)
    flow = {}
    for line in lines_of(text):
        pieces = line.split(" ")
        flow[tuple(pieces[:2])] = count_in(pieces[-1])
    if not _is_written_flow(flow) or flow_text(flow) != text:
        raise InvalidText(text)
    return flow
