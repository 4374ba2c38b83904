"""Ways through the net of a quarter and a town: short ones, wide ones, and both."""

from gatequarters.counts import check_count, is_count
from gatequarters.nets import asked_net, places_of_net, streets_of_net
from gatequarters.quarters import check_quarter, check_town
from gatequarters.searching import is_row, shortest_rows, turned, wide_streets

_NO_WAY = (None, None)


def net_streets(quarter, town):
    """Return the ascending list of the streets of a net, as (side, name)."""
    check_quarter(quarter)
    check_town(town)
    return [street[0] for street in streets_of_net(quarter, town)]


def net_places(quarter, town):
    """Return the ascending list of the places of a net, as (side, word)."""
    check_quarter(quarter)
    check_town(town)
    return places_of_net(quarter, town)


def _way_streets(streets, start, goal, value):
    """Return the streets of a way with all they are, None if any object is no way."""
    names = [street[0] for street in streets]
    if not isinstance(value, list) or not value or not all([name in names for name in value]):
        return None
    row = [streets[names.index(name)] for name in value]
    return row if is_row(row) and row[0][1] == start and row[-1][2] == goal else None


def _best_way(streets, start, goal):
    """Return the tuple (length, names) of a shortest way of fewest streets."""
    return shortest_rows(streets, [start]).get(goal, _NO_WAY)


def is_way(quarter, town, start, goal, value):
    """Return whether any object is a way."""
    streets, origin, target = asked_net(quarter, town, start, goal)
    return _way_streets(streets, origin, target, value) is not None


def way_length(quarter, town, start, goal):
    """Return the least length of a way, None if there is none."""
    streets, origin, target = asked_net(quarter, town, start, goal)
    return _best_way(streets, origin, target)[0]


def shortest_way(quarter, town, start, goal):
    """Return a way of the least length with as few streets as can be, None if there is none."""
    streets, origin, target = asked_net(quarter, town, start, goal)
    return _best_way(streets, origin, target)[1]


def is_shortest_way(quarter, town, start, goal, value):
    """Return whether any object is a way of the least length with as few streets as can be."""
    streets, origin, target = asked_net(quarter, town, start, goal)
    way = _way_streets(streets, origin, target, value)
    if way is None:
        return False
    length, names = _best_way(streets, origin, target)
    return sum([street[4] for street in way]) == length and len(way) == len(names)


def heights(quarter, town, start, goal):
    """Return heights that show the least length of a way, the places ascending."""
    streets, origin, _ = asked_net(quarter, town, start, goal)
    rows = shortest_rows(streets, [origin])
    return {place: rows.get(place, _NO_WAY)[0] for place in places_of_net(quarter, town)}


def _are_marks(places, value):
    """Return whether any object is a dictionary from just the places to counts or None."""
    if not isinstance(value, dict) or len(value) != len(places):
        return False
    if not all([place in value for place in places]):
        return False
    return all([value[place] is None or is_count(value[place]) for place in places])


def _rises_too_fast(marks, street):
    """Return whether a street that is not shut rises by more than its length."""
    _, start, end, width, length = street
    if width == 0 or marks[start] is None:
        return False
    return marks[end] is None or marks[end] > marks[start] + length


def are_heights(quarter, town, start, goal, value):
    """Return whether any object is heights that show the least length of a way."""
    streets, origin, target = asked_net(quarter, town, start, goal)
    if not _are_marks(places_of_net(quarter, town), value):
        return False
    if value[origin] != 0 or value[target] != _best_way(streets, origin, target)[0]:
        return False
    return not any([_rises_too_fast(value, street) for street in streets])


def _trades(streets, start, goal):
    """Return the ascending list of the tuples (width, length) of ways that none betters."""
    widths = sorted({street[3] for street in streets if street[3] > 0})
    found = []
    # From the widest way down: a narrower one counts only if it is shorter.
    for width in widths[::-1]:
        length = _best_way(wide_streets(streets, width), start, goal)[0]
        if length is not None and (not found or length < found[-1][1]):
            found.append((width, length))
    return found[::-1]


def _greatest_width(streets, start, goal):
    """Return the greatest width of a way, 0 if there is none."""
    pairs = _trades(streets, start, goal)
    return pairs[-1][0] if pairs else 0


def way_width(quarter, town, start, goal):
    """Return the greatest width of a way, 0 if there is none."""
    streets, origin, target = asked_net(quarter, town, start, goal)
    return _greatest_width(streets, origin, target)


def widest_way(quarter, town, start, goal):
    """Return a way of the greatest width, None if there is none."""
    streets, origin, target = asked_net(quarter, town, start, goal)
    width = _greatest_width(streets, origin, target)
    return _best_way(wide_streets(streets, width), origin, target)[1]


def is_widest_way(quarter, town, start, goal, value):
    """Return whether any object is a way of the greatest width."""
    streets, origin, target = asked_net(quarter, town, start, goal)
    way = _way_streets(streets, origin, target, value)
    if way is None:
        return False
    return min([street[3] for street in way]) == _greatest_width(streets, origin, target)


def narrow_lot(quarter, town, start, goal):
    """Return a list of places that shows that no way is wider than the widest one."""
    streets, origin, target = asked_net(quarter, town, start, goal)
    wider = wide_streets(streets, _greatest_width(streets, origin, target) + 1)
    return sorted(shortest_rows(wider, [origin]))


def is_narrow_lot(quarter, town, start, goal, value):
    """Return whether any object is a list of places that no street too wide leads out of."""
    streets, origin, target = asked_net(quarter, town, start, goal)
    if not isinstance(value, list):
        return False
    if value != [place for place in places_of_net(quarter, town) if place in value]:
        return False
    if origin not in value or target in value:
        return False
    leaving = [street for street in streets if street[1] in value and street[2] not in value]
    return not wide_streets(leaving, _greatest_width(streets, origin, target) + 1)


def used_streets(quarter, town, start, goal):
    """Return the ascending list of the streets that stand in some way of the least length."""
    streets, origin, target = asked_net(quarter, town, start, goal)
    ahead = shortest_rows(streets, [origin])
    behind = shortest_rows(turned(streets), [target])
    used = []
    for name, begin, end, width, length in streets:
        if width > 0 and begin in ahead and end in behind:
            if ahead[begin][0] + length + behind[end][0] == ahead[target][0]:
                used.append(name)
    return used


def needed_streets(quarter, town, start, goal):
    """Return the ascending list of the streets that stand in every way of the least length."""
    streets, origin, target = asked_net(quarter, town, start, goal)
    least = _best_way(streets, origin, target)[0]
    needed = []
    for name in used_streets(quarter, town, start, goal):
        others = [street for street in streets if street[0] != name]
        if _best_way(others, origin, target)[0] != least:
            needed.append(name)
    return needed


def wide_length(quarter, town, start, goal, width):
    """Return the least length of a way of at least a width, None if there is none."""
    streets, origin, target = asked_net(quarter, town, start, goal)
    check_count(width)
    return _best_way(wide_streets(streets, width), origin, target)[0]


def trades(quarter, town, start, goal):
    """Return the ascending list of the tuples (width, length) of ways that none betters."""
    streets, origin, target = asked_net(quarter, town, start, goal)
    return _trades(streets, origin, target)
