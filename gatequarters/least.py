"""Least quarters: crossings that are merged, tables that can be, and what they are made of."""

from gatequarters.cuttables import are_parts_of, inner_crossings, lone_quarters, parts_told, quarter_with
from gatequarters.cuttables import rows_that_bar
from gatequarters.errors import InvalidGates, InvalidParting, InvalidTable, Refused
from gatequarters.lots import check_lot
from gatequarters.partings import Merging, is_parting, merged_quarter
from gatequarters.quarters import Quarter, are_gates, check_quarter, crossings_of
from gatequarters.tables import is_table, least_side, lots_of, table_of


def merged(quarter, parting):
    """Return the quarter in which each class of a parting is one crossing."""
    check_quarter(quarter)
    if not is_parting(quarter, parting):
        raise InvalidParting(parting)
    return merged_quarter(quarter, parting)


def least_parting(quarter):
    """Return a parting of as few classes as can be whose merged quarter is alike by "most"."""
    check_quarter(quarter)
    merging = Merging(quarter)
    return merging.fewest_classes()


def is_least_parting(quarter, value):
    """Return whether any object is a parting of fewest classes whose merged quarter is alike."""
    fewest = least_parting(quarter)
    if not is_parting(quarter, value) or len(value) != len(fewest):
        return False
    return table_of(merged_quarter(quarter, value), "most") == table_of(quarter, "most")


def side_parting(quarter):
    """Return the parting by the least sides in which crossings stand."""
    sides = [least_side(quarter, lot) for lot in lots_of(quarter)]
    classes = {}
    for crossing in crossings_of(quarter):
        classes.setdefault(tuple([crossing in side for side in sides]), []).append(crossing)
    return sorted(list(classes.values()))


def _check_gates_of(gates, least, most):
    """Raise InvalidGates unless any object is a list of so many unlike words, at least and at most."""
    if not are_gates(gates) or not least <= len(gates) <= most:
        raise InvalidGates(gates)


def _check_table(gates, table):
    """Raise InvalidTable unless any object is a cut table of some gates."""
    if not is_table(gates, "most", table):
        raise InvalidTable(table)


def barring_rows(gates, table):
    """Return the ascending list of the pairs of lots for which no quarter can have a table."""
    _check_table(gates, table)
    return rows_that_bar(sorted(gates), table)


def can_be(gates, table):
    """Return whether some quarter has a cut table of at most three gates."""
    _check_gates_of(gates, 1, 3)
    return not barring_rows(gates, table)


def crossings_wanted(gates, table):
    """Return with how few further crossings a quarter has a cut table, None if none has it."""
    return inner_crossings(sorted(gates), table) if can_be(gates, table) else None


def made_quarter(gates, table):
    """Return a quarter of as few further crossings as can be with a cut table, None if none has it."""
    return quarter_with(sorted(gates), table) if can_be(gates, table) else None


def is_made_quarter(gates, table, value):
    """Return whether any object is a quarter of fewest further crossings with a cut table."""
    wanted = crossings_wanted(gates, table)
    if wanted is None or not isinstance(value, Quarter) or value.gates() != sorted(gates):
        return False
    return len(crossings_of(value)) == len(gates) + wanted and table_of(value, "most") == table


def _few_gates(quarter):
    """Return the gates of a quarter, refused if it has more than three."""
    check_quarter(quarter)
    if len(quarter.gates()) > 3:
        raise Refused(quarter)
    return quarter.gates()


def least_alike(quarter):
    """Return a quarter that is alike by "most", of as few further crossings as can be."""
    return made_quarter(_few_gates(quarter), table_of(quarter, "most"))


def is_least_alike(quarter, value):
    """Return whether any object is a quarter of fewest further crossings that is alike by "most"."""
    return is_made_quarter(_few_gates(quarter), table_of(quarter, "most"), value)


def _check_pair_of(gates, lot):
    """Raise InvalidGates or InvalidLot unless a lot is one of at least two gates."""
    if not are_gates(gates) or len(gates) < 2:
        raise InvalidGates(gates)
    check_lot(sorted(gates), lot)


def lone_pair(gates, lot):
    """Return a tuple of two quarters whose tables of "most" are unlike at a lot alone."""
    _check_pair_of(gates, lot)
    return lone_quarters(sorted(gates), lot)


def is_lone_pair(gates, lot, value):
    """Return whether any object is a tuple of two quarters unlike by "most" at a lot alone."""
    _check_pair_of(gates, lot)
    if not isinstance(value, tuple) or len(value) != 2:
        return False
    if not all([isinstance(quarter, Quarter) and quarter.gates() == sorted(gates) for quarter in value]):
        return False
    one, other = [table_of(quarter, "most") for quarter in value]
    return [key for key in one if one[key] != other[key]] == [lot]


def _check_three(gates, table):
    """Raise InvalidGates or InvalidTable unless some quarter has a cut table of three gates."""
    _check_gates_of(gates, 3, 3)
    if barring_rows(gates, table):
        raise InvalidTable(table)


def parts_of(gates, table):
    """Return a tuple (streets, star) of counts that tell a cut table of three gates."""
    _check_three(gates, table)
    return parts_told(sorted(gates), table)


def are_parts(gates, table, value):
    """Return whether any object is a tuple (streets, star) of counts that tell a cut table."""
    _check_three(gates, table)
    return are_parts_of(sorted(gates), table, value)
