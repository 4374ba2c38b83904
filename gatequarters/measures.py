"""The measures of the package, and the keys of their tables."""

from gatequarters.errors import InvalidMeasure
from gatequarters.lots import gate_lots

_MEASURES = ("most", "shut1", "shut2", "way", "widest")


def all_measures():
    """Return the ascending list of the measures."""
    return list(_MEASURES)


def check_measure(value, measures):
    """Raise InvalidMeasure unless any object is one of some measures."""
    if value not in measures:
        raise InvalidMeasure(value)


def is_of_pairs(measure):
    """Return whether the keys of a measure are tuples of two gates."""
    return measure in ("way", "widest")


def shut_by(measure):
    """Return how many streets are shut by a measure of lots."""
    return ("most", "shut1", "shut2").index(measure)


def words_of_lots(many):
    """Return the measures of lots by which none, one, and so on up to so many streets are shut."""
    return ["most", "shut1", "shut2"][:many + 1]


def parts_needed(measure):
    """Return the measures whose tables of all parts tell the table of a glued quarter."""
    return [measure] if is_of_pairs(measure) else words_of_lots(shut_by(measure))


def keys_of(gates, measure):
    """Return the ascending list of the keys of a measure for ascending gates."""
    if is_of_pairs(measure):
        return [(start, goal) for start in gates for goal in gates if start != goal]
    return gate_lots(gates)
