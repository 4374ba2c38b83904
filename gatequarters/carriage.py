"""Flows that cost as little as can be: each street's number times its length.

Streets are tuples (name, start, end, width, length); names and ends may be anything that
can be a key.
"""

from gatequarters.searching import shortest_rows

# Crossings are words, so these two ends of streets are none of them.
_BEFORE = "+"
_BEHIND = "-"


def _rest(streets, flow):
    """Return the streets along which a flow can be shifted, named by (name, whether ahead).

    What is taken back is paid back.
    """
    ahead = [((name, True), start, end, width - flow[name], length)
             for name, start, end, width, length in streets]
    back = [((name, False), end, start, flow[name], -length) for name, start, end, _, length in streets]
    return ahead + back


def cheap_flow(streets, start, goal, limit):
    """Return a tuple (flow, steps): a cheapest flow of the greatest amount, or of a limit if less.

    The steps are tuples (number, length): so much was carried further, each time along a row
    of this length, none of which is less than one ahead. None is no limit.
    """
    flow = {street[0]: 0 for street in streets}
    steps = []
    left = limit
    while left is None or left > 0:
        # Nothing was dearer than it must be, so no ring of the rest pays back.
        rest = _rest(streets, flow)
        found = shortest_rows(rest, [start]).get(goal)
        if found is None:
            break
        length, row = found
        more = min([street[3] for street in rest if street[0] in row])
        if left is not None:
            more = min(more, left)
            left = left - more
        for name, ahead in row:
            flow[name] = flow[name] + more if ahead else flow[name] - more
        steps.append((more, length))
    return (flow, steps)


def cost_of_flow(streets, flow):
    """Return what a flow costs."""
    return sum([flow[name] * length for name, _, _, _, length in streets])


def _with_doors(streets, numbers):
    """Return the streets, and one from before to each crossing that brings in, or on behind."""
    doors = []
    for crossing in numbers:
        number = numbers[crossing]
        if number > 0:
            doors.append(((_BEFORE, crossing), _BEFORE, crossing, number, 0))
        if number < 0:
            doors.append(((crossing, _BEHIND), crossing, _BEHIND, -number, 0))
    return streets + doors


def cheap_carrying(streets, numbers):
    """Return a cheapest flow that carries what crossings bring in to where it goes, None if none does.

    The numbers are a dictionary from crossings to what comes in, below 0 to what goes out.
    """
    brought = sum([number for number in numbers.values() if number > 0])
    flow, steps = cheap_flow(_with_doors(streets, numbers), _BEFORE, _BEHIND, None)
    if sum([number for number, _ in steps]) < brought:
        return None
    return {street[0]: flow[street[0]] for street in streets}


def heights_of(streets, flow, crossings):
    """Return the heights of crossings that show that a flow is cheapest, in their order."""
    # From anywhere, so no street with room rises faster than it is long.
    rows = shortest_rows(_rest(streets, flow), crossings)
    return {crossing: rows[crossing][0] for crossing in crossings}


def _shifted(sums, street, places, number):
    """Return a tuple of sums at places with so much more going by a street."""
    shifts = {street[1]: number, street[2]: -number}
    return tuple([told + shifts.get(place, 0) for told, place in zip(sums, places)])


def least_costs(streets, places):
    """Return a dictionary from what goes out at each place, as tuples, to the least cost of a load.

    A load is any dictionary from the streets to numbers from 0 to their widths.
    """
    costs = {tuple([0] * len(places)): 0}
    for street in streets:
        further = {}
        for sums in costs:
            for number in range(street[3] + 1):
                told = _shifted(sums, street, places, number)
                cost = costs[sums] + number * street[4]
                if told not in further or cost < further[told]:
                    further[told] = cost
        costs = further
    return costs
