"""The widths of ALL lots of places, told by positions as in the module lots."""

from gatequarters.lots import chosen
from gatequarters.quarters import ends_of


def places_from(streets, marked):
    """Return a list of the ends of streets and marked places, the marked ones first."""
    return marked + sorted(set(ends_of(streets)) - set(marked))


def _ties(streets):
    """Return a dictionary from two ends to the widths of the streets between them, both ways."""
    ties = {}
    for _, start, end, width, _ in streets:
        ties[(start, end)] = ties.get((start, end), 0) + width
        ties[(end, start)] = ties.get((end, start), 0) + width
    return ties


def _leaving_widths(streets, places):
    """Return at each position the sum of the widths of the streets that leave its places."""
    ties = _ties(streets)
    widths = [0]
    for at, place in enumerate(places):
        # With this place, its streets leave, but for those from and to places that are there.
        gains = [sum([street[3] for street in streets if street[1] == place])]
        for other in places[:at]:
            tie = ties.get((place, other), 0)
            gains = gains + [gain - tie for gain in gains]
        widths = widths + [width + gain for width, gain in zip(widths, gains)]
    return widths


def side_widths(streets, places, many):
    """Return at each position what is left of its width if the widest so many are shut."""
    if many == 0:
        return _leaving_widths(streets, places)
    sign = {place: 1 << at for at, place in enumerate(places)}
    rows = sorted([(width, sign[start], sign[end]) for _, start, end, width, _ in streets])[::-1]
    widths = []
    for position in range(1 << len(places)):
        leaving = [width for width, start, end in rows if position & start and not position & end]
        widths.append(sum(leaving[many:]))
    return widths


def least_widths(streets, marked, many):
    """Return at each position of the marked places the least width of what leaves.

    It is the least one of all lots of places that hold just these of the marked ones.
    """
    places = places_from(streets, marked)
    widths = side_widths(streets, places, many)
    every = 1 << len(marked)
    return [min(widths[position::every]) for position in range(every)]


def town_cuts(gates, town, start, goal):
    """Return a dictionary from tuples of gates to the least width of a town's cut with just these.

    The start is in the cut and the goal is not; gates for which this cannot be are no key.
    """
    marked = sorted(set(gates + [start, goal]))
    cuts = {}
    for position, width in enumerate(least_widths(town.streets(), marked, 0)):
        within = chosen(marked, position)
        if start in within and goal not in within:
            cuts[tuple([place for place in within if place in gates])] = width
    return cuts
