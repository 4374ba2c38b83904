"""Flows of a quarter that carry from the gates of a lot to its other gates, and sides of lots."""

from gatequarters.searching import open_names
from gatequarters.streams import balances, full_amount, full_flow, is_load, reached_by, reaching
from gatequarters.streams import width_sum, worst_names

# Crossings are words, so these two ends of streets are none of them.
_BEFORE = "+"
_BEHIND = "-"


def lot_amount(streets, lot, flow):
    """Return what goes at the gates of a lot less what comes there."""
    sums = balances(streets, flow)
    return sum([sums.get(gate, 0) for gate in lot])


def is_lot_load(streets, gates, lot, value):
    """Return whether any object is a lot flow, of whatever amount."""
    if not is_load(streets, value):
        return False
    sums = balances(streets, value)
    if any([sums[place] != 0 for place in sums if place not in gates]):
        return False
    return all([sums.get(gate, 0) >= 0 if gate in lot else sums.get(gate, 0) <= 0 for gate in gates])


def _with_doors(streets, gates, lot):
    """Return the streets, and one to each gate of a lot from before, one from each other behind.

    These are so wide that they never hold anything back.
    """
    bound = 1 + width_sum(streets)
    doors = []
    for gate in gates:
        if gate in lot:
            doors.append(((_BEFORE, gate), _BEFORE, gate, bound, 0))
        else:
            doors.append(((gate, _BEHIND), gate, _BEHIND, bound, 0))
    return streets + doors


def full_lot_flow(streets, gates, lot, limit):
    """Return a lot flow of the greatest amount, or of a limit if that is less; None is no limit."""
    flow = full_flow(_with_doors(streets, gates, lot), _BEFORE, _BEHIND, limit)
    return {street[0]: flow[street[0]] for street in streets}


def full_lot_amount(streets, gates, lot):
    """Return the greatest amount of a lot flow, which is the least width of a side of the lot."""
    return full_amount(_with_doors(streets, gates, lot), _BEFORE, _BEHIND, None)


def worst_for_lot(streets, gates, lot, many):
    """Return a tuple (amount, names): what is left for a lot, and the fewest that leave no more.

    So many streets, at most, are shut.
    """
    return worst_names(_with_doors(streets, gates, lot), _BEFORE, _BEHIND, many, open_names(streets))


def near_side(streets, gates, lot):
    """Return the side of a lot with the least width that lies in all others."""
    doors = _with_doors(streets, gates, lot)
    reached = reached_by(doors, full_flow(doors, _BEFORE, _BEHIND, None), _BEFORE)
    return [place for place in reached if place != _BEFORE]


def far_side(streets, gates, lot, crossings):
    """Return the side of a lot with the least width in which all others lie."""
    doors = _with_doors(streets, gates, lot)
    beyond = reaching(doors, full_flow(doors, _BEFORE, _BEHIND, None), _BEHIND)
    return [crossing for crossing in crossings if crossing not in beyond]
