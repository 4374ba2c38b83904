"""What is left of a quarter if streets fail, and which ones to double against it."""

from itertools import combinations

from gatequarters.counts import check_count_to
from gatequarters.entries import lot_entries
from gatequarters.lotflows import full_lot_amount, full_lot_flow, is_lot_load, lot_amount, worst_for_lot
from gatequarters.lots import check_lot, check_names, is_sublist
from gatequarters.nets import is_question
from gatequarters.notices import holding_notice
from gatequarters.quarters import Quarter, check_quarter
from gatequarters.searching import open_names, wide_streets
from gatequarters.streams import shut_streets
from gatequarters.tables import answer_by, greatest_side, least_side
from gatequarters.words import free_words


def _entries(quarter, many):
    """Return what is left for each lot if the worst so many streets are shut."""
    return lot_entries(quarter.streets(), quarter.gates(), many)


def _check_failing(quarter, lot, many):
    """Raise the first error unless a quarter can be asked for a lot and so many streets."""
    check_quarter(quarter)
    check_lot(quarter.gates(), lot)
    check_count_to(many, 2)


def _worst(quarter, lot, many):
    """Return a tuple (amount, names): what is left for a lot, and a worst shutting of fewest streets."""
    _check_failing(quarter, lot, many)
    return worst_for_lot(quarter.streets(), quarter.gates(), lot, many)


def most_left(quarter, lot, many):
    """Return what is left for a lot if the worst so many streets are shut."""
    return _worst(quarter, lot, many)[0]


def worst_shutting(quarter, lot, many):
    """Return a shutting of fewest streets that leaves as little for a lot as can be."""
    return _worst(quarter, lot, many)[1]


def is_worst_shutting(quarter, lot, many, value):
    """Return whether any object is a shutting of fewest streets that leaves as little as can be."""
    left, names = _worst(quarter, lot, many)
    if not is_sublist(value, open_names(quarter.streets())) or len(value) != len(names):
        return False
    return full_lot_amount(shut_streets(quarter.streets(), value), quarter.gates(), lot) == left


def _shuttings(quarter, many):
    """Return the ascending list of the shuttings of just so many open streets, or of all."""
    names = open_names(quarter.streets())
    return [list(some) for some in combinations(names, int(min(many, len(names))))]


def failing_paper(quarter, lot, many):
    """Return a list of all shuttings of so many streets with a lot flow of what is left at least."""
    left = most_left(quarter, lot, many)
    streets, gates = quarter.streets(), quarter.gates()
    return [(names, full_lot_flow(shut_streets(streets, names), gates, lot, left))
            for names in _shuttings(quarter, many)]


def _is_flow_beside(quarter, lot, names, left, value):
    """Return whether any object is a lot flow of an amount that is 0 at the streets of some names."""
    streets = shut_streets(quarter.streets(), names)
    return is_lot_load(streets, quarter.gates(), lot, value) and lot_amount(streets, lot, value) == left


def is_failing_paper(quarter, lot, many, value):
    """Return whether any object is a list of all shuttings with lot flows of just what is left."""
    left = most_left(quarter, lot, many)
    shuttings = _shuttings(quarter, many)
    if not isinstance(value, list) or len(value) != len(shuttings):
        return False
    for row, names in zip(value, shuttings):
        if not isinstance(row, tuple) or len(row) != 2 or row[0] != names:
            return False
        if not _is_flow_beside(quarter, lot, names, left, row[1]):
            return False
    return True


def lowering_streets(quarter, lot):
    """Return the ascending list of the open streets that lower what a lot has if they are shut."""
    check_quarter(quarter)
    check_lot(quarter.gates(), lot)
    streets, gates = quarter.streets(), quarter.gates()
    whole = full_lot_amount(streets, gates, lot)
    return [name for name in open_names(streets)
            if full_lot_amount(shut_streets(streets, [name]), gates, lot) < whole]


def cutting_streets(quarter, lot):
    """Return the ascending list of the open streets that leave every side of least width."""
    # All of these sides lie between two of them.
    least, greatest = least_side(quarter, lot), greatest_side(quarter, lot)
    return [name for name, start, end, _, _ in wide_streets(quarter.streets(), 1)
            if start in least and end not in greatest]


def losses(quarter, many):
    """Return the dictionary from all lots to what they lose if the worst so many streets are shut."""
    check_quarter(quarter)
    check_count_to(many, 2)
    whole, left = _entries(quarter, 0), _entries(quarter, many)
    return {lot: whole[lot] - left[lot] for lot in whole}


def is_safe(quarter, many):
    """Return whether no lot loses anything, whichever so many streets are shut."""
    return loss_by_shutting(quarter, many) == 0


def loss_by_shutting(quarter, many):
    """Return the greatest loss of a lot if the worst so many streets are shut."""
    lost = losses(quarter, many)
    return max([lost[lot] for lot in lost], default=0)


def losing_town(quarter, many):
    """Return a tuple (town, start, goal) that loses as much as any, None if there is one gate."""
    lost = losses(quarter, many)
    greatest = max([lost[lot] for lot in lost], default=0)
    worst = [lot for lot in lost if lost[lot] == greatest]
    return holding_notice(quarter.gates(), worst[0], [quarter]) if worst else None


def is_losing_town(quarter, many, value):
    """Return whether any object is a tuple (town, start, goal) that loses as much as any."""
    greatest = loss_by_shutting(quarter, many)
    gates = quarter.gates()
    if len(gates) < 2 or not is_question(quarter, value):
        return False
    town, start, goal = value
    whole = answer_by(gates, "most", _entries(quarter, 0), town, start, goal)
    return whole - answer_by(gates, "most", _entries(quarter, many), town, start, goal) == greatest


def _with_doubled(quarter, names):
    """Return the quarter with a second street beside each of some names."""
    streets = quarter.streets()
    doubles = [street for street in streets if street[0] in names]
    free = free_words([street[0] for street in streets], len(doubles))
    return Quarter(streets + [(word,) + street[1:] for word, street in zip(free, doubles)], quarter.gates())


def doubled(quarter, names):
    """Return the quarter with a second street beside each of some names."""
    check_quarter(quarter)
    check_names(quarter, names)
    return _with_doubled(quarter, names)


def _keeps(quarter, names):
    """Return whether with some streets doubled no lot loses anything, whichever one is shut."""
    whole, left = _entries(quarter, 0), _entries(_with_doubled(quarter, names), 1)
    return all([left[lot] >= whole[lot] for lot in whole])


def fewest_doubled(quarter):
    """Return a shortest list of open streets that need be doubled against one that is shut."""
    check_quarter(quarter)
    names = open_names(quarter.streets())
    for many in range(len(names)):
        for some in combinations(names, many):
            if _keeps(quarter, list(some)):
                return list(some)
    return names


def is_fewest_doubled(quarter, value):
    """Return whether any object is a shortest list of open streets that need be doubled."""
    fewest = fewest_doubled(quarter)
    if not is_sublist(value, open_names(quarter.streets())) or len(value) != len(fewest):
        return False
    return _keeps(quarter, value)
