"""Flows through streets from one place to another.

Streets are tuples (name, start, end, width, length); names and ends may be anything that
can be a key. A flow is a dictionary from all of their names to numbers.
"""

from gatequarters.counts import is_count
from gatequarters.searching import shortest_rows, turned


def is_load(streets, value):
    """Return whether any object is a dictionary from all names to numbers from 0 to the widths."""
    if not isinstance(value, dict) or len(value) != len(streets):
        return False
    if not all([street[0] in value and is_count(value[street[0]]) for street in streets]):
        return False
    return all([value[street[0]] <= street[3] for street in streets])


def balances(streets, flow):
    """Return a dictionary from the ends of streets to what goes out there less what comes in."""
    sums = {}
    for name, start, end, _, _ in streets:
        sums[start] = sums.get(start, 0) + flow[name]
        sums[end] = sums.get(end, 0) - flow[name]
    return sums


def leaving_streets(streets, places):
    """Return the streets that begin at one of some places and end elsewhere."""
    return [street for street in streets if street[1] in places and street[2] not in places]


def width_sum(streets):
    """Return the sum of the widths of streets."""
    return sum([street[3] for street in streets])


def set_widths(streets, names, number):
    """Return the streets, those of some names with another width."""
    return [(name, start, end, number if name in names else width, length)
            for name, start, end, width, length in streets]


def shut_streets(streets, names):
    """Return the streets, those of some names with the width 0."""
    return set_widths(streets, names, 0)


def set_lengths(streets, names, number):
    """Return the streets, those of some names with another length."""
    return [(name, start, end, width, number if name in names else length)
            for name, start, end, width, length in streets]


def _links_of(streets):
    """Return a dictionary from each end to tuples (name, other end, width, ahead).

    A street stands at both of its ends: at its start to go ahead on it, at its end to take
    back what flows there.
    """
    links = {}
    for name, start, end, width, _ in streets:
        links.setdefault(start, []).append((name, end, width, True))
        links.setdefault(end, []).append((name, start, width, False))
    return links


def _steps_from(links, flow, start):
    """Return a dictionary from the places to which more can flow to the steps that lead there."""
    steps = {start: None}
    level = [start]
    while level:
        further = []
        for place in level:
            for name, end, width, ahead in links.get(place, []):
                room = width - flow[name] if ahead else flow[name]
                if room > 0 and end not in steps:
                    steps[end] = (place, name, room, ahead)
                    further.append(end)
        level = further
    return steps


def _row_of_steps(steps, goal):
    """Return the steps that lead to a place, the last one first."""
    row = []
    step = steps[goal]
    while step is not None:
        row.append(step)
        step = steps[step[0]]
    return row


def full_flow(streets, start, goal, limit):
    """Return a flow of the greatest amount, or of a limit if that is less; None is no limit."""
    links = _links_of(streets)
    flow = {street[0]: 0 for street in streets}
    left = limit
    while left is None or left > 0:
        steps = _steps_from(links, flow, start)
        if goal not in steps:
            break
        row = _row_of_steps(steps, goal)
        more = min([room for _, _, room, _ in row])
        if left is not None:
            more = min(more, left)
            left = left - more
        for _, name, _, ahead in row:
            flow[name] = flow[name] + more if ahead else flow[name] - more
    return flow


def full_amount(streets, start, goal, limit):
    """Return the greatest amount of a flow, or a limit if that is less; None is no limit."""
    return balances(streets, full_flow(streets, start, goal, limit)).get(start, 0)


def worst_names(streets, start, goal, many, names):
    """Return a tuple (amount, names): the least amount if so many streets of some names are shut.

    The names are told as an ascending list of the fewest of them that leave no more.
    """
    flow = full_flow(streets, start, goal, None)
    worst = (balances(streets, flow).get(start, 0), [])
    # Only a street that carries something can lower the amount.
    carrying = [name for name in names if flow[name] > 0] if many > 0 else []
    for name in carrying:
        amount, others = worst_names(shut_streets(streets, [name]), start, goal, many - 1, names)
        if (amount, len(others) + 1) < (worst[0], len(worst[1])):
            worst = (amount, sorted(others + [name]))
    return worst


def reached_by(streets, flow, start):
    """Return the ascending list of the places to which more can flow from a place."""
    return sorted(_steps_from(_links_of(streets), flow, start))


def reaching(streets, flow, goal):
    """Return the ascending list of the places from which more can flow to a place."""
    return reached_by(turned(streets), flow, goal)


def rest_of(streets, flow):
    """Return the streets along which a flow can be shifted, named by (name, whether ahead)."""
    ahead = [((name, True), start, end, width - flow[name], 0) for name, start, end, width, _ in streets]
    back = [((name, False), end, start, flow[name], 0) for name, start, end, _, _ in streets]
    return ahead + back


def _take_row(flow, row, parts):
    """Take as much as a row of names carries out of a flow, and note it as a part."""
    number = min([flow[name] for name in row])
    for name in row:
        flow[name] = flow[name] - number
    parts.append((number, row))


def _carried_row(streets, flow, start, goal):
    """Return the names of a row of streets that carry something, None if there is none."""
    carried = [(name, begin, end, flow[name], 0) for name, begin, end, _, _ in streets]
    found = shortest_rows(carried, [start]).get(goal)
    return None if found is None else found[1]


def parted(streets, flow, start, goal):
    """Return a list of tuples (number, names) of rows and rings that add up to a flow."""
    left = {name: flow[name] for name in flow}
    parts = []
    # The rings first: as long as there are some, a row can carry more than the amount.
    for name, begin, end, _, _ in streets:
        row = _carried_row(streets, left, end, begin)
        while left[name] > 0 and row is not None:
            _take_row(left, [name] + row, parts)
            row = _carried_row(streets, left, end, begin)
    row = _carried_row(streets, left, start, goal)
    while row is not None:
        _take_row(left, row, parts)
        row = _carried_row(streets, left, start, goal)
    return parts
