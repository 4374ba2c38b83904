"""Flows through the net of a quarter and a town, and cuts of it."""

from gatequarters.counts import check_count_to, is_count
from gatequarters.errors import InvalidCut, InvalidFlow, InvalidName
from gatequarters.lots import check_names, is_sublist
from gatequarters.nets import asked_net, places_of_net
from gatequarters.searching import is_row
from gatequarters.streams import balances, full_amount, full_flow, is_load, leaving_streets, parted
from gatequarters.streams import reached_by, reaching, rest_of, shut_streets, width_sum, worst_names


def _is_flow(streets, origin, target, value):
    """Return whether any object is a flow through the streets of a net."""
    if not is_load(streets, value):
        return False
    sums = balances(streets, value)
    if any([sums[place] != 0 for place in sums if place not in (origin, target)]):
        return False
    return sums.get(origin, 0) >= 0


def _check_flow(streets, origin, target, value):
    """Raise InvalidFlow unless any object is a flow through the streets of a net."""
    if not _is_flow(streets, origin, target, value):
        raise InvalidFlow(value)


def _amount(streets, origin, flow):
    """Return the amount of a flow."""
    return balances(streets, flow).get(origin, 0)


def is_flow(quarter, town, start, goal, value):
    """Return whether any object is a flow."""
    streets, origin, target = asked_net(quarter, town, start, goal)
    return _is_flow(streets, origin, target, value)


def amount_of(quarter, town, start, goal, flow):
    """Return the amount of a flow."""
    streets, origin, target = asked_net(quarter, town, start, goal)
    _check_flow(streets, origin, target, flow)
    return _amount(streets, origin, flow)


def is_cut(quarter, town, start, goal, value):
    """Return whether any object is a cut."""
    _, origin, target = asked_net(quarter, town, start, goal)
    if not is_sublist(value, places_of_net(quarter, town)):
        return False
    return origin in value and target not in value


def _streets_that_leave(quarter, town, start, goal, cut):
    """Return the streets that leave a cut, with all they are."""
    streets, _, _ = asked_net(quarter, town, start, goal)
    if not is_cut(quarter, town, start, goal, cut):
        raise InvalidCut(cut)
    return leaving_streets(streets, cut)


def streets_of_cut(quarter, town, start, goal, cut):
    """Return the ascending list of the streets that leave a cut."""
    return [street[0] for street in _streets_that_leave(quarter, town, start, goal, cut)]


def cut_width(quarter, town, start, goal, cut):
    """Return the sum of the widths of the streets that leave a cut."""
    return width_sum(_streets_that_leave(quarter, town, start, goal, cut))


def most(quarter, town, start, goal):
    """Return the greatest amount of a flow."""
    streets, origin, target = asked_net(quarter, town, start, goal)
    return full_amount(streets, origin, target, None)


def top_flow(quarter, town, start, goal):
    """Return a flow of the greatest amount, its keys ascending."""
    streets, origin, target = asked_net(quarter, town, start, goal)
    return full_flow(streets, origin, target, None)


def least_cut(quarter, town, start, goal):
    """Return a cut whose width is least."""
    return near_cut(quarter, town, start, goal)


def is_top_flow(quarter, town, start, goal, value):
    """Return whether any object is a flow of the greatest amount."""
    streets, origin, target = asked_net(quarter, town, start, goal)
    if not _is_flow(streets, origin, target, value):
        return False
    return _amount(streets, origin, value) == full_amount(streets, origin, target, None)


def is_least_cut(quarter, town, start, goal, value):
    """Return whether any object is a cut whose width is least."""
    if not is_cut(quarter, town, start, goal, value):
        return False
    return cut_width(quarter, town, start, goal, value) == most(quarter, town, start, goal)


def paper_of(quarter, town, start, goal):
    """Return a tuple of a flow and a cut that hold each other."""
    return (top_flow(quarter, town, start, goal), least_cut(quarter, town, start, goal))


def is_paper(quarter, town, start, goal, value):
    """Return whether any object is a tuple of a flow and a cut that hold each other."""
    streets, origin, target = asked_net(quarter, town, start, goal)
    if not isinstance(value, tuple) or len(value) != 2:
        return False
    flow, cut = value
    if not _is_flow(streets, origin, target, flow) or not is_cut(quarter, town, start, goal, cut):
        return False
    return _amount(streets, origin, flow) == width_sum(leaving_streets(streets, cut))


def near_cut(quarter, town, start, goal):
    """Return the cut of least width that lies within each of them."""
    streets, origin, target = asked_net(quarter, town, start, goal)
    return reached_by(streets, full_flow(streets, origin, target, None), origin)


def far_cut(quarter, town, start, goal):
    """Return the cut of least width within which each of them lies."""
    streets, origin, target = asked_net(quarter, town, start, goal)
    beyond = reaching(streets, full_flow(streets, origin, target, None), target)
    return [place for place in places_of_net(quarter, town) if place not in beyond]


def narrow_streets(quarter, town, start, goal):
    """Return the ascending list of the streets, none shut, that leave some cut of least width."""
    streets, origin, target = asked_net(quarter, town, start, goal)
    flow = full_flow(streets, origin, target, None)
    # What could be shifted from its start to its end would leave a street with room.
    return [name for name, begin, end, width, _ in streets
            if width > 0 and end not in reached_by(streets, flow, begin)]


def helping_streets(quarter, town, start, goal):
    """Return the ascending list of the streets that raise the most if they alone are wider."""
    streets, origin, target = asked_net(quarter, town, start, goal)
    flow = full_flow(streets, origin, target, None)
    near, beyond = reached_by(streets, flow, origin), reaching(streets, flow, target)
    return [name for name, begin, end, _, _ in streets if begin in near and end in beyond]


def flow_of(quarter, town, start, goal, amount):
    """Return a flow of an amount, its keys ascending."""
    streets, origin, target = asked_net(quarter, town, start, goal)
    check_count_to(amount, full_amount(streets, origin, target, None))
    return full_flow(streets, origin, target, amount)


def parting_of(quarter, town, start, goal, flow):
    """Return a parting of a flow with at most as many tuples as the net has streets."""
    streets, origin, target = asked_net(quarter, town, start, goal)
    _check_flow(streets, origin, target, flow)
    return parted(streets, flow, origin, target)


def _is_part(streets, origin, target, value):
    """Return whether any object is a tuple of a number and a row or a ring of streets."""
    if not isinstance(value, tuple) or len(value) != 2:
        return False
    number, names = value
    known = [street[0] for street in streets]
    if not is_count(number) or number == 0 or not isinstance(names, list) or not names:
        return False
    if not all([name in known for name in names]):
        return False
    row = [streets[known.index(name)] for name in names]
    return is_row(row) and _touches_no_place_twice(row, origin, target)


def _touches_no_place_twice(row, origin, target):
    """Return whether a row is one from the origin to the target, or a ring, without a double."""
    begins = [street[1] for street in row]
    if len(set(begins)) != len(begins):
        return False
    if begins[0] == row[-1][2]:
        return True
    return begins[0] == origin and row[-1][2] == target and target not in begins


def is_parting(quarter, town, start, goal, flow, value):
    """Return whether any object is a parting of a flow."""
    streets, origin, target = asked_net(quarter, town, start, goal)
    _check_flow(streets, origin, target, flow)
    if not isinstance(value, list) or not all([_is_part(streets, origin, target, part) for part in value]):
        return False
    sums = {street[0]: 0 for street in streets}
    for number, names in value:
        for name in names:
            sums[name] = sums[name] + number
    return all([sums[name] == flow[name] for name in sums])


def _shiftable(quarter, town, start, goal, street):
    """Return a tuple of what a flow of the most has on a street, of the most by which it can
    have less, and of that by which it can have more."""
    streets, origin, target = asked_net(quarter, town, start, goal)
    rows = [row for row in streets if row[0] == street]
    if not rows:
        raise InvalidName(street)
    flow = full_flow(streets, origin, target, None)
    name, begin, end, width, _ = rows[0]
    # What the street has more, or less, goes round by the others; the amount stays.
    others = rest_of([row for row in streets if row[0] != name], flow)
    less = full_amount(others, begin, end, flow[name])
    more = full_amount(others, end, begin, width - flow[name])
    return (flow[name], less, more)


def least_on(quarter, town, start, goal, street):
    """Return the least number that a flow of the greatest amount has for a street."""
    number, less, _ = _shiftable(quarter, town, start, goal, street)
    return number - less


def greatest_on(quarter, town, start, goal, street):
    """Return the greatest number that a flow of the greatest amount has for a street."""
    number, _, more = _shiftable(quarter, town, start, goal, street)
    return number + more


def most_shut(quarter, town, start, goal, names):
    """Return the greatest amount of a flow if the quarter's streets of some names are shut."""
    streets, origin, target = asked_net(quarter, town, start, goal)
    check_names(quarter, names)
    shut = shut_streets(streets, [("quarter", name) for name in names])
    return full_amount(shut, origin, target, None)


def _worst(quarter, town, start, goal, many):
    """Return a tuple (amount, names): the worst streets of the quarter to shut, of so many."""
    streets, origin, target = asked_net(quarter, town, start, goal)
    check_count_to(many, 2)
    own = [street[0] for street in streets if street[0][0] == "quarter"]
    amount, names = worst_names(streets, origin, target, many, own)
    return (amount, [word for _, word in names])


def worst_shut(quarter, town, start, goal, many):
    """Return an ascending list of at most so many names of streets that are worst to shut."""
    return _worst(quarter, town, start, goal, many)[1]


def is_worst_shut(quarter, town, start, goal, many, value):
    """Return whether any object is a list of at most so many names that are worst to shut."""
    least = _worst(quarter, town, start, goal, many)[0]
    names = [street[0] for street in quarter.streets()]
    if not is_sublist(value, names) or len(value) > many:
        return False
    return most_shut(quarter, town, start, goal, value) == least
