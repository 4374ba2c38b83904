"""Partings of crossings into classes, and the fewest classes that no town notices by "most"."""

from gatequarters.lots import is_sublist
from gatequarters.quarters import Quarter, crossings_of
from gatequarters.sides import places_from, side_widths


def is_parting(quarter, value):
    """Return whether any object is a parting of a quarter."""
    crossings, gates = crossings_of(quarter), quarter.gates()
    if not isinstance(value, list) or not all([is_sublist(part, crossings) for part in value]):
        return False
    parted = [crossing for part in value for crossing in part]
    if sorted(parted) != crossings or [] in value or value != sorted(value):
        return False
    return all([len([gate for gate in part if gate in gates]) < 2 for part in value])


def merged_quarter(quarter, parting):
    """Return the quarter in which each class of a parting is one crossing."""
    gates = quarter.gates()
    words = {}
    for part in parting:
        word = ([crossing for crossing in part if crossing in gates] + part)[0]
        for crossing in part:
            words[crossing] = word
    streets = [(name, words[start], words[end], width, length)
               for name, start, end, width, length in quarter.streets() if words[start] != words[end]]
    return Quarter(streets, gates)


class Merging:
    """The widths of all sides of a quarter, by which partings of its crossings are judged.

    Classes are told by positions in the list of the crossings, gates first.
    """

    def __init__(self, quarter):
        self._gates = quarter.gates()
        self._places = places_from(quarter.streets(), self._gates)
        self._widths = side_widths(quarter.streets(), self._places, 0)
        self._least = self._least_of(list(range(len(self._widths))))

    def _least_of(self, positions):
        """Return at each position of gates the least width of those that hold just these."""
        every = 1 << len(self._gates)
        least = [None] * every
        for position in positions:
            within = position & (every - 1)
            if least[within] is None or self._widths[position] < least[within]:
                least[within] = self._widths[position]
        return least

    def _is_alike(self, classes):
        """Return whether the quarter with some classes merged has the same entries of "most"."""
        unions = [0]
        for part in classes:
            unions = unions + [union | part for union in unions]
        return self._least_of(unions) == self._least

    def _filled(self, classes, at, most):
        """Return alike classes with the crossings from one on put in, None if there are none.

        There are at most so many classes.
        """
        if at == len(self._places):
            return classes if self._is_alike(classes) else None
        sign = 1 << at
        for k, part in enumerate(classes):
            found = self._filled(classes[:k] + [part | sign] + classes[k + 1:], at + 1, most)
            if found is not None:
                return found
        if len(classes) == most:
            return None
        return self._filled(classes + [sign], at + 1, most)

    def fewest_classes(self):
        """Return a parting of as few classes as can be whose merged quarter is alike."""
        gate_classes = [1 << at for at in range(len(self._gates))]
        most = len(gate_classes)
        found = self._filled(gate_classes, most, most)
        # At the latest the classes of one crossing each are alike.
        while found is None:
            most += 1
            found = self._filled(gate_classes, len(gate_classes), most)
        return sorted([sorted([place for at, place in enumerate(self._places) if part >> at & 1])
                       for part in found])
