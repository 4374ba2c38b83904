"""Flows of a quarter that carry from the gates of a lot to its other gates."""

from gatequarters.streams import balances, full_flow, is_load, width_sum

# Crossings are words, so these two ends of streets are none of them.
_BEFORE = "+"
_BEHIND = "-"


def lot_amount(streets, lot, flow):
    """Return what goes at the gates of a lot less what comes there."""
    sums = balances(streets, flow)
    return sum([sums.get(gate, 0) for gate in lot])


def is_lot_load(streets, gates, lot, value):
    """Return whether any object is a lot flow, of whatever amount."""
    if not is_load(streets, value):
        return False
    sums = balances(streets, value)
    if any([sums[place] != 0 for place in sums if place not in gates]):
        return False
    return all([sums.get(gate, 0) >= 0 if gate in lot else sums.get(gate, 0) <= 0 for gate in gates])


def full_lot_flow(streets, gates, lot, limit):
    """Return a lot flow of the greatest amount, or of a limit if that is less; None is no limit."""
    bound = width_sum(streets)
    doors = []
    for gate in gates:
        if gate in lot:
            doors.append(((_BEFORE, gate), _BEFORE, gate, bound, 0))
        else:
            doors.append(((gate, _BEHIND), gate, _BEHIND, bound, 0))
    flow = full_flow(streets + doors, _BEFORE, _BEHIND, limit)
    return {street[0]: flow[street[0]] for street in streets}
