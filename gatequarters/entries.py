"""The entries of tables, from streets and gates alone, and which of two is worse."""

from gatequarters.lotflows import worst_for_lot
from gatequarters.lots import gate_lots, position_of
from gatequarters.measures import is_of_pairs, keys_of, shut_by
from gatequarters.searching import greatest_widths, least_lengths
from gatequarters.sides import least_widths, places_from


# With more places than these, flows find what leaves a lot sooner than all sides do.
_FEW_PLACES = 12


def lot_entries(streets, gates, many):
    """Return the entries of all lots of ascending gates if so many streets are shut, ascending."""
    lots = gate_lots(gates)
    if len(places_from(streets, gates)) > _FEW_PLACES:
        return {lot: worst_for_lot(streets, gates, lot, many)[0] for lot in lots}
    least = least_widths(streets, gates, many)
    return {lot: least[position_of(gates, lot)] for lot in lots}


def entries_of(streets, gates, measure):
    """Return the table of a measure for streets and ascending gates, its keys ascending."""
    if not is_of_pairs(measure):
        return lot_entries(streets, gates, shut_by(measure))
    if measure == "way":
        lengths = least_lengths(streets)
        return {key: lengths.get(key) for key in keys_of(gates, measure)}
    widths = greatest_widths(streets)
    return {key: widths.get(key, 0) for key in keys_of(gates, measure)}


def is_worse(measure, value, other):
    """Return whether a value of a measure is worse than another one."""
    if measure != "way":
        return value < other
    if value is None or other is None:
        # No way is worse than each way.
        return other is not None
    return value > other


def worse_keys(measure, entries, others):
    """Return the list of the keys at which entries are worse than others, in their order."""
    return [key for key in entries if is_worse(measure, entries[key], others[key])]
