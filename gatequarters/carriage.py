"""Flows that cost as little as can be: each street's number times its length.

Streets are tuples (name, start, end, width, length); names and ends may be anything that
can be a key.
"""

from gatequarters.searching import shortest_rows

# Crossings are words, so these two ends of streets are none of them.
_BEFORE = "+"
_BEHIND = "-"


def _rest(streets, flow):
    """Return the streets along which a flow can be shifted, named by (name, whether ahead).

    What is taken back is paid back.
    """
    ahead = [((name, True), start, end, width - flow[name], length)
             for name, start, end, width, length in streets]
    back = [((name, False), end, start, flow[name], -length) for name, start, end, _, length in streets]
    return ahead + back


def cheap_flow(streets, start, goal, limit):
    """Return a tuple (flow, steps): a cheapest flow of the greatest amount, or of a limit if less.

    The steps are tuples (number, length): so much was carried further, each time along a row
    of this length, none of which is less than one ahead. None is no limit.
    """
    flow = {street[0]: 0 for street in streets}
    steps = []
    left = limit
    while left is None or left > 0:
        # Nothing was dearer than it must be, so no ring of the rest pays back.
        rest = _rest(streets, flow)
        found = shortest_rows(rest, [start]).get(goal)
        if found is None:
            break
        length, row = found
        more = min([street[3] for street in rest if street[0] in row])
        if left is not None:
            more = min(more, left)
            left = left - more
        for name, ahead in row:
            flow[name] = flow[name] + more if ahead else flow[name] - more
        steps.append((more, length))
    return (flow, steps)


def cost_of_flow(streets, flow):
    """Return what a flow costs."""
    return sum([flow[name] * length for name, _, _, _, length in streets])


def _with_doors(streets, numbers):
    """Return the streets, and one from before to each crossing that brings in, or on behind."""
    doors = []
    for crossing in numbers:
        number = numbers[crossing]
        if number > 0:
            doors.append(((_BEFORE, crossing), _BEFORE, crossing, number, 0))
        if number < 0:
            doors.append(((crossing, _BEHIND), crossing, _BEHIND, -number, 0))
    return streets + doors


def cheap_carrying(streets, numbers):
    """Return a cheapest flow that carries what crossings bring in to where it goes, None if none does.

    The numbers are a dictionary from crossings to what comes in, below 0 to what goes out.
    """
    brought = sum([number for number in numbers.values() if number > 0])
    flow, steps = cheap_flow(_with_doors(streets, numbers), _BEFORE, _BEHIND, None)
    if sum([number for number, _ in steps]) < brought:
        return None
    return {street[0]: flow[street[0]] for street in streets}


def heights_of(streets, flow, crossings):
    """Return the heights of crossings that show that a flow is cheapest, in their order."""
    # From anywhere, so no street with room rises faster than it is long.
    rows = shortest_rows(_rest(streets, flow), crossings)
    return {crossing: rows[crossing][0] for crossing in crossings}


def _moved(supply, start, goal):
    """Return a supply with one more that comes in at a position, and one less at another one."""
    moved = list(supply)
    moved[start] = moved[start] + 1
    moved[goal] = moved[goal] - 1
    return tuple(moved)


def _with_one_more(flow, row):
    """Return a flow with one more along a row of the rest."""
    further = {name: flow[name] for name in flow}
    for name, ahead in row:
        further[name] = further[name] + 1 if ahead else further[name] - 1
    return further


def _next_supplies(streets, gates, supply, flow, known):
    """Return a dictionary from the supplies, not known yet, of one more between two gates.

    They go to tuples of what this costs more than a cheapest flow of a supply, and of a
    cheapest flow of theirs.
    """
    found = {}
    rest = _rest(streets, flow)
    for start, gate in enumerate(gates):
        goals = [goal for goal in range(len(gates)) if goal != start and _moved(supply, start, goal) not in known]
        rows = shortest_rows(rest, [gate]) if goals else {}
        for goal in goals:
            if gates[goal] in rows:
                length, row = rows[gates[goal]]
                found[_moved(supply, start, goal)] = (length, _with_one_more(flow, row))
    return found


def least_costs(streets, gates):
    """Return a dictionary from all supplies of gates that have a carrying to their least costs."""
    nothing = tuple([0] * len(gates))
    costs = {nothing: 0}
    level = {nothing: {street[0]: 0 for street in streets}}
    # A carrying can be put together row by row, so one more and one more leads to each supply.
    while level:
        further = {}
        for supply in level:
            found = _next_supplies(streets, gates, supply, level[supply], costs)
            for told in found:
                costs[told] = costs[supply] + found[told][0]
                further[told] = found[told][1]
        level = further
    return costs
