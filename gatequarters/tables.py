"""Tables of a quarter: what a town can see of it, and papers that hold each entry."""

from gatequarters.counts import is_count
from gatequarters.entries import entries_of
from gatequarters.entrypapers import crossing_paper, is_crossing_paper, is_lot_paper, is_shut_paper
from gatequarters.entrypapers import shut_paper
from gatequarters.errors import InvalidCut, InvalidLot, InvalidTable
from gatequarters.lotflows import far_side, full_lot_amount, full_lot_flow, is_lot_load, lot_amount, near_side
from gatequarters.lots import check_lot, gate_lots, is_sublist
from gatequarters.measures import all_measures, check_measure, is_of_pairs, keys_of
from gatequarters.nets import check_places
from gatequarters.quarters import check_gates, check_quarter, crossings_of, places_of
from gatequarters.searching import greatest_widths, shortest_rows
from gatequarters.sides import town_cuts
from gatequarters.streams import leaving_streets, width_sum


def lots_of(quarter):
    """Return the ascending list of all lots of a quarter's gates."""
    check_quarter(quarter)
    return gate_lots(quarter.gates())


def _check_lot_of(quarter, lot):
    """Raise InvalidQuarter or InvalidLot unless a lot is one of a quarter's gates."""
    check_quarter(quarter)
    check_lot(quarter.gates(), lot)


def side_width(quarter, side):
    """Return the sum of the widths of the streets that leave a list of crossings."""
    check_quarter(quarter)
    if not is_sublist(side, crossings_of(quarter)):
        raise InvalidCut(side)
    return width_sum(leaving_streets(quarter.streets(), side))


def least_side(quarter, lot):
    """Return the side of a lot with the least width that lies in all others."""
    _check_lot_of(quarter, lot)
    return near_side(quarter.streets(), quarter.gates(), lot)


def greatest_side(quarter, lot):
    """Return the side of a lot with the least width in which all others lie."""
    _check_lot_of(quarter, lot)
    return far_side(quarter.streets(), quarter.gates(), lot, crossings_of(quarter))


def is_narrowest_side(quarter, lot, value):
    """Return whether any object is a side of a lot with the least width."""
    _check_lot_of(quarter, lot)
    if not is_sublist(value, crossings_of(quarter)):
        return False
    if [gate for gate in quarter.gates() if gate in value] != list(lot):
        return False
    width = width_sum(leaving_streets(quarter.streets(), value))
    return width == full_lot_amount(quarter.streets(), quarter.gates(), lot)


def table_of(quarter, measure):
    """Return the table of a quarter by a measure, its keys ascending."""
    check_quarter(quarter)
    check_measure(measure, all_measures())
    return entries_of(quarter.streets(), quarter.gates(), measure)


def lot_flow(quarter, lot):
    """Return a lot flow of the greatest amount."""
    _check_lot_of(quarter, lot)
    return full_lot_flow(quarter.streets(), quarter.gates(), lot, None)


def is_lot_flow(quarter, lot, value):
    """Return whether any object is a lot flow of the greatest amount."""
    _check_lot_of(quarter, lot)
    streets, gates = quarter.streets(), quarter.gates()
    if not is_lot_load(streets, gates, lot, value):
        return False
    return lot_amount(streets, lot, value) == full_lot_amount(streets, gates, lot)


def _check_key(quarter, measure, key):
    """Raise the first error unless a measure has papers and a key is one of its."""
    check_quarter(quarter)
    check_measure(measure, [word for word in all_measures() if word != "shut2"])
    if key not in keys_of(quarter.gates(), measure):
        raise InvalidLot(key)


def entry_paper(quarter, measure, key):
    """Return an entry paper of a measure and a key."""
    _check_key(quarter, measure, key)
    if is_of_pairs(measure):
        return crossing_paper(quarter, measure, key)
    if measure == "most":
        return (lot_flow(quarter, key), least_side(quarter, key))
    return shut_paper(quarter, key)


def is_entry_paper(quarter, measure, key, value):
    """Return whether any object is an entry paper of a measure and a key."""
    _check_key(quarter, measure, key)
    if not isinstance(value, tuple) or len(value) != 2:
        return False
    if is_of_pairs(measure):
        return is_crossing_paper(quarter, measure, key, value)
    if measure == "most":
        return is_lot_paper(quarter, key, value)
    return is_shut_paper(quarter, key, value)


def _is_entry(measure, value):
    """Return whether any object can be an entry of a measure."""
    return is_count(value) or (measure == "way" and value is None)


def is_table(gates, measure, value):
    """Return whether any object is, by its form, a table of a measure for some gates."""
    check_gates(gates)
    check_measure(measure, all_measures())
    keys = keys_of(sorted(gates), measure)
    if not isinstance(value, dict) or len(value) != len(keys):
        return False
    return all([key in value and _is_entry(measure, value[key]) for key in keys])


def _answer_of_pairs(measure, table, town, start, goal):
    """Return the least length or the greatest width in the net of a town and a table."""
    if measure == "way":
        links = [(pair, pair[0], pair[1], 1, table[pair]) for pair in table if table[pair] is not None]
        found = shortest_rows(town.streets() + links, [start]).get(goal)
        return None if found is None else found[0]
    links = [(pair, pair[0], pair[1], table[pair], 0) for pair in table]
    return greatest_widths(town.streets() + links).get((start, goal), 0)


def answer_by(gates, measure, table, town, start, goal):
    """Return the measure between two places around any quarter with this table."""
    if not is_table(gates, measure, table):
        raise InvalidTable(table)
    check_places(gates + places_of(town), start, goal)
    if is_of_pairs(measure):
        return _answer_of_pairs(measure, table, town, start, goal)
    cuts = town_cuts(gates, town, start, goal)
    # No lot has none of the gates, or all: nothing leaves the quarter there.
    return min([cuts[lot] + table.get(lot, 0) for lot in cuts])
