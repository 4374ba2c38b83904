"""Streets that can be shut or widened together, and lots of changes that no town notices."""

from gatequarters.entries import entries_of
from gatequarters.errors import InvalidChanges
from gatequarters.lots import check_names, check_positions, chosen, fewest_lots, is_sublist, lies_within, most_lots
from gatequarters.measures import all_measures, check_measure
from gatequarters.quarters import Quarter, are_changes_by_form, check_quarter, fitted
from gatequarters.searching import least_lengths, open_names, wide_streets
from gatequarters.streams import set_widths, shut_streets, width_sum
from gatequarters.tables import table_of


def _widened(streets, names):
    """Return the streets, those of some names wider than all together."""
    return set_widths(streets, names, 1 + width_sum(streets))


def with_shut(quarter, names):
    """Return the quarter in which the streets of some names are shut."""
    check_quarter(quarter)
    check_names(quarter, names)
    return Quarter(shut_streets(quarter.streets(), names), quarter.gates())


def with_widened(quarter, names):
    """Return the quarter in which the streets of some names are as wide as helps."""
    check_quarter(quarter)
    check_names(quarter, names)
    return Quarter(_widened(quarter.streets(), names), quarter.gates())


def _check_measured(quarter, measure):
    """Raise the first error unless a quarter can be asked by a measure."""
    check_quarter(quarter)
    check_measure(measure, all_measures())


def _is_noticed(quarter, measure, altered):
    """Return the function that tells whether streets altered by names leave another table."""
    streets, gates, own = quarter.streets(), quarter.gates(), table_of(quarter, measure)
    return lambda names: entries_of(altered(streets, names), gates, measure) != own


def _is_unnoticed_list(quarter, measure, altered, names, value):
    """Return whether any object is a list of some names that can be altered together."""
    if not is_sublist(value, names):
        return False
    is_noticed = _is_noticed(quarter, measure, altered)
    return not is_noticed(value)


def is_spare(quarter, measure, value):
    """Return whether any object is a list of open streets that can be shut together."""
    _check_measured(quarter, measure)
    return _is_unnoticed_list(quarter, measure, shut_streets, open_names(quarter.streets()), value)


def spare_lots(quarter, measure):
    """Return the ascending list of the spare lists that lie in no other one."""
    _check_measured(quarter, measure)
    return most_lots(open_names(quarter.streets()), _is_noticed(quarter, measure, shut_streets))


def unspared_streets(quarter, measure):
    """Return the ascending list of the open streets that are in no spare list."""
    _check_measured(quarter, measure)
    # What lies within a spare list is spare, so a street that is in one is spare alone.
    is_noticed = _is_noticed(quarter, measure, shut_streets)
    return [name for name in open_names(quarter.streets()) if is_noticed([name])]


def harmful_lots(quarter, measure):
    """Return the ascending list of the lists that are not spare, while each one within is."""
    _check_measured(quarter, measure)
    return fewest_lots(open_names(quarter.streets()), _is_noticed(quarter, measure, shut_streets))


def is_wide(quarter, measure, value):
    """Return whether any object is a list of streets that can be widened together."""
    _check_measured(quarter, measure)
    names = [street[0] for street in quarter.streets()]
    return _is_unnoticed_list(quarter, measure, _widened, names, value)


def wide_lots(quarter, measure):
    """Return the ascending list of the wide lists that lie in no other one."""
    _check_measured(quarter, measure)
    names = [street[0] for street in quarter.streets()]
    return most_lots(names, _is_noticed(quarter, measure, _widened))


def _check_changes(quarter, changes):
    """Raise the first error unless a quarter and a list of changes by their form are passed."""
    check_quarter(quarter)
    if not are_changes_by_form(changes):
        raise InvalidChanges(changes)


def _quarter_of_lot(quarter, changes, lot):
    """Return the quarter that a lot of changes leads to, None if one does not fit."""
    after = quarter
    for at in lot:
        after = fitted(after, changes[at])
        if after is None:
            return None
    return after


def lot_quarter(quarter, changes, lot):
    """Return the quarter of a lot of changes, None if it has none."""
    _check_changes(quarter, changes)
    check_positions(lot, len(changes))
    return _quarter_of_lot(quarter, changes, lot)


def _lots_told(quarter, changes, measure):
    """Return the lots of changes that are not alike to a quarter, and those that are."""
    own = table_of(quarter, measure)
    noticed, unnoticed = [], []
    for position in range(1 << len(changes)):
        lot = chosen(list(range(len(changes))), position)
        after = _quarter_of_lot(quarter, changes, lot)
        if after is not None and table_of(after, measure) == own:
            unnoticed.append(lot)
        elif after is not None:
            noticed.append(lot)
    return (noticed, unnoticed)


def noticed_lots(quarter, changes, measure):
    """Return the ascending list of the noticed lots of changes within which no other one is."""
    _check_changes(quarter, changes)
    check_measure(measure, all_measures())
    lots = _lots_told(quarter, changes, measure)[0]
    return sorted([lot for lot in lots
                   if not any([other != lot and lies_within(other, lot) for other in lots])])


def unnoticed_lots(quarter, changes, measure):
    """Return the ascending list of the unnoticed lots of changes that lie within no other one."""
    _check_changes(quarter, changes)
    check_measure(measure, all_measures())
    lots = _lots_told(quarter, changes, measure)[1]
    return sorted([lot for lot in lots
                   if not any([other != lot and lies_within(lot, other) for other in lots])])


def sure_streets(quarter):
    """Return the ascending list of the open streets that neither ways nor flows can spare."""
    check_quarter(quarter)
    unspared = [unspared_streets(quarter, measure) for measure in ("way", "widest", "most")]
    return [name for name in open_names(quarter.streets()) if all([name in names for names in unspared])]


def dead_streets(quarter):
    """Return the ascending list of the open streets on no row from a gate to another gate."""
    check_quarter(quarter)
    gates = quarter.gates()
    rows = least_lengths(quarter.streets())
    dead = []
    for name, start, end, _, _ in wide_streets(quarter.streets(), 1):
        into = [gate for gate in gates if gate == start or (gate, start) in rows]
        out = [gate for gate in gates if gate == end or (end, gate) in rows]
        if not any([first != last for first in into for last in out]):
            dead.append(name)
    return dead
