"""Lots: some of the things of a list, told as ascending lists of them or by positions.

A position tells a lot of a list's things by its ones: the thing at k is in it if the
position has the sign 1 << k.
"""

from itertools import combinations

from gatequarters.counts import is_count
from gatequarters.errors import InvalidLot


def is_sublist(value, things):
    """Return whether any object is a list of some of the things, in their order."""
    return isinstance(value, list) and value == [thing for thing in things if thing in value]


def check_names(quarter, value):
    """Raise InvalidLot unless any object is an ascending list of names of a quarter's streets."""
    if not is_sublist(value, [street[0] for street in quarter.streets()]):
        raise InvalidLot(value)


def chosen(things, position):
    """Return the list of the things that a position tells."""
    return [thing for at, thing in enumerate(things) if position >> at & 1]


def position_of(things, some):
    """Return the position that tells some of the things."""
    return sum([1 << at for at, thing in enumerate(things) if thing in some])


def gate_lots(gates):
    """Return the ascending list of the lots of ascending gates: of not none, and not all."""
    return sorted([tuple(chosen(gates, position)) for position in range(1, (1 << len(gates)) - 1)])


def is_lot(gates, value):
    """Return whether any object is a lot of ascending gates."""
    if not isinstance(value, tuple) or list(value) != [gate for gate in gates if gate in value]:
        return False
    return 0 < len(value) < len(gates)


def check_lot(gates, value):
    """Raise InvalidLot unless any object is a lot of ascending gates."""
    if not is_lot(gates, value):
        raise InvalidLot(value)


def are_positions(value, many):
    """Return whether any object is an ascending list of positions in a list of so many things."""
    # True stands for no position, though it equals 1.
    return is_sublist(value, list(range(many))) and all([is_count(at) for at in value])


def check_positions(value, many):
    """Raise InvalidLot unless any object is an ascending list of positions in a list of so many."""
    if not are_positions(value, many):
        raise InvalidLot(value)


def lies_within(lot, other):
    """Return whether all things of a lot are in another one."""
    return all([thing in other for thing in lot])


def _sorted_out(things, holds):
    """Return the lots for which something holds, while for none within, and those for which not."""
    least, others = [], []
    for many in range(len(things) + 1):
        for some in combinations(things, many):
            lot = list(some)
            if any([lies_within(found, lot) for found in least]):
                continue
            if holds(lot):
                least.append(lot)
            else:
                others.append(lot)
    return (least, others)


def fewest_lots(things, holds):
    """Return the ascending list of the lots for which something holds, while for none within.

    The things are ascending; what holds for a lot must hold for all lots that it lies in.
    """
    return sorted(_sorted_out(things, holds)[0])


def most_lots(things, holds):
    """Return the ascending list of the lots for which something does not hold, in no other such one.

    The things are ascending; what holds for a lot must hold for all lots that it lies in.
    """
    most = []
    # The longest come first, so what lies in another lot lies in one that is there.
    for lot in _sorted_out(things, holds)[1][::-1]:
        if not any([lies_within(lot, other) for other in most]):
            most.append(lot)
    return sorted(most)
