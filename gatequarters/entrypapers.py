"""Papers that hold the entries of a quarter's tables from both sides, and are added up."""

from gatequarters.counts import is_count
from gatequarters.lotflows import full_lot_flow, is_lot_load, lot_amount, near_side, worst_for_lot
from gatequarters.lots import is_sublist
from gatequarters.quarters import crossings_of, is_street, street_of
from gatequarters.searching import is_row, shortest_rows, wide_streets
from gatequarters.streams import leaving_streets, shut_streets, width_sum


def _way_of(quarter, streets, key):
    """Return a shortest way by some of a quarter's streets, None if there is none."""
    found = shortest_rows(streets, [key[0]]).get(key[1])
    return None if found is None else [street_of(quarter, name) for name in found[1]]


def _length_heights(quarter, way, key):
    """Return the heights that show that no way is shorter, their keys ascending."""
    top = sum([street[4] for street in way])
    rows = shortest_rows(quarter.streets(), [key[0]])
    # Nothing needs to be higher than the goal, not even what nothing reaches.
    return {crossing: min(rows[crossing][0], top) if crossing in rows else top
            for crossing in crossings_of(quarter)}


def crossing_paper(quarter, measure, key):
    """Return an entry paper of "way" or "widest"."""
    streets = quarter.streets()
    if measure == "way":
        way = _way_of(quarter, streets, key)
        if way is not None:
            return (way, _length_heights(quarter, way, key))
        return (None, sorted(shortest_rows(streets, [key[0]])))
    for width in sorted({street[3] for street in streets if street[3] > 0})[::-1]:
        way = _way_of(quarter, wide_streets(streets, width), key)
        if way is not None:
            return (way, sorted(shortest_rows(wide_streets(streets, width + 1), [key[0]])))
    return (None, sorted(shortest_rows(streets, [key[0]])))


def _is_way(quarter, key, value):
    """Return whether any object is a way in a quarter alone, as a list of its streets."""
    streets = quarter.streets()
    if not isinstance(value, list) or not value:
        return False
    # A tuple with True for 1 equals the street, but is none.
    if not all([is_street(street) and street in streets for street in value]):
        return False
    return is_row(value) and value[0][1] == key[0] and value[-1][2] == key[1]


def _are_heights(quarter, key, top, value):
    """Return whether any object is heights that show that no way is shorter than a length."""
    crossings = crossings_of(quarter)
    if not isinstance(value, dict) or len(value) != len(crossings):
        return False
    if not all([crossing in value and is_count(value[crossing]) for crossing in crossings]):
        return False
    if value[key[0]] != 0 or value[key[1]] != top:
        return False
    return all([value[end] <= value[start] + length
                for _, start, end, width, length in quarter.streets() if width > 0])


def _is_bar(quarter, key, width, value):
    """Return whether any object is a list of crossings that no street wider than this leaves."""
    if not is_sublist(value, crossings_of(quarter)) or key[0] not in value or key[1] in value:
        return False
    return not wide_streets(leaving_streets(quarter.streets(), value), width + 1)


def is_crossing_paper(quarter, measure, key, value):
    """Return whether a tuple of two things is an entry paper of "way" or "widest"."""
    way, shown = value
    if way is None:
        return _is_bar(quarter, key, 0, shown)
    if not _is_way(quarter, key, way):
        return False
    if measure == "way":
        return _are_heights(quarter, key, sum([street[4] for street in way]), shown)
    return _is_bar(quarter, key, min([street[3] for street in way]), shown)


def _is_side(quarter, lot, value):
    """Return whether any object is a side of a lot."""
    if not is_sublist(value, crossings_of(quarter)):
        return False
    return tuple([gate for gate in quarter.gates() if gate in value]) == lot


def is_lot_paper(quarter, lot, value):
    """Return whether a tuple of two things is an entry paper of "most"."""
    flow, side = value
    streets = quarter.streets()
    if not is_lot_load(streets, quarter.gates(), lot, flow) or not _is_side(quarter, lot, side):
        return False
    return lot_amount(streets, lot, flow) == width_sum(leaving_streets(streets, side))


def shut_paper(quarter, lot):
    """Return an entry paper of "shut1"."""
    streets, gates = quarter.streets(), quarter.gates()
    if not streets:
        return ((list(lot), None), {})
    # If no street lowers what is left, any one does for the paper.
    name = (worst_for_lot(streets, gates, lot, 1)[1] + [streets[0][0]])[0]
    side = near_side(shut_streets(streets, [name]), gates, lot)
    flows = {street[0]: full_lot_flow(shut_streets(streets, [street[0]]), gates, lot, None)
             for street in streets}
    return ((side, name), flows)


def _is_flow_without(quarter, lot, name, least, value):
    """Return whether any object is a lot flow of at least an amount that is 0 at a street."""
    streets = quarter.streets()
    if not is_lot_load(streets, quarter.gates(), lot, value) or value[name] != 0:
        return False
    return lot_amount(streets, lot, value) >= least


def is_shut_paper(quarter, lot, value):
    """Return whether a tuple of two things is an entry paper of "shut1"."""
    held, flows = value
    if not isinstance(held, tuple) or len(held) != 2 or not _is_side(quarter, lot, held[0]):
        return False
    side, name = held
    names = [street[0] for street in quarter.streets()]
    if not isinstance(flows, dict) or len(flows) != len(names):
        return False
    if not names:
        return name is None
    if name not in names or not all([word in flows for word in names]):
        return False
    least = width_sum(leaving_streets(shut_streets(quarter.streets(), [name]), side))
    return all([_is_flow_without(quarter, lot, word, least, flows[word]) for word in names])
