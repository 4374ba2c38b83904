"""The net of a quarter and a town, as places and streets of one kind."""

from gatequarters.errors import InvalidPlace
from gatequarters.quarters import Town, asked_of, crossings_of, places_of


def _place(side, word, gates):
    """Return the place of a net that a word means in the quarter or in the town."""
    return ("gate", word) if word in gates else (side, word)


def _side_streets(side, streets, gates):
    """Return the streets of the quarter or of the town with their names and ends in the net."""
    return [((side, name), _place(side, start, gates), _place(side, end, gates), width, length)
            for name, start, end, width, length in streets]


def streets_of_net(quarter, town):
    """Return the streets of a net, ascending, named and ending as the net tells them."""
    gates = quarter.gates()
    return _side_streets("quarter", quarter.streets(), gates) + _side_streets("town", town.streets(), gates)


def places_of_net(quarter, town):
    """Return the ascending list of the places of a net."""
    gates = quarter.gates()
    inside = [_place("quarter", word, gates) for word in crossings_of(quarter)]
    outside = [_place("town", word, gates) for word in places_of(town)]
    return sorted(set(inside + outside))


def check_places(words, start, goal):
    """Raise InvalidPlace unless the start and the goal are two unlike ones of some words."""
    if start not in words:
        raise InvalidPlace(start)
    if goal not in words or goal == start:
        raise InvalidPlace(goal)


def asked_net(quarter, town, start, goal):
    """Return the tuple (streets, start, goal) of a net, both as places of the net.

    Whoever asks for something between two places is refused here if they do not fit.
    """
    check_places(asked_of(quarter, town), start, goal)
    gates = quarter.gates()
    return (streets_of_net(quarter, town), _place("town", start, gates), _place("town", goal, gates))


def is_question(quarter, value):
    """Return whether any object is a tuple of a town and two unlike places that can be asked of."""
    if not isinstance(value, tuple) or len(value) != 3 or not isinstance(value[0], Town):
        return False
    words = asked_of(quarter, value[0])
    return value[1] in words and value[2] in words and value[1] != value[2]
