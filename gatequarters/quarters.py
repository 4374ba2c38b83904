"""Quarters and towns, their streets, and changes of quarters."""

from gatequarters.counts import is_count
from gatequarters.errors import InvalidChange, InvalidChanges, InvalidGates, InvalidName
from gatequarters.errors import InvalidQuarter, InvalidStreets, InvalidTown, Unlike
from gatequarters.searching import is_row, shortest_rows, turned


def is_word(value):
    """Return whether any object is a word: one to eight letters from a to z."""
    if not isinstance(value, str) or not 1 <= len(value) <= 8:
        return False
    return all(["a" <= letter <= "z" for letter in value])


def is_street(value):
    """Return whether any object is a street (name, start, end, width, length)."""
    if not isinstance(value, tuple) or len(value) != 5:
        return False
    name, start, end, width, length = value
    if not (is_word(name) and is_word(start) and is_word(end)):
        return False
    return start != end and is_count(width) and is_count(length)


def are_streets(value):
    """Return whether any object is a list of streets with unlike names."""
    if not isinstance(value, list) or not all([is_street(street) for street in value]):
        return False
    return len({street[0] for street in value}) == len(value)


def check_streets(value):
    """Raise InvalidStreets unless any object is a list of streets with unlike names."""
    if not are_streets(value):
        raise InvalidStreets(value)


def are_gates(value):
    """Return whether any object is a list of unlike words, at least one."""
    if not isinstance(value, list) or not all([is_word(gate) for gate in value]):
        return False
    return 0 < len(value) == len(set(value))


def check_gates(value):
    """Raise InvalidGates unless any object is a list of unlike words, at least one."""
    if not are_gates(value):
        raise InvalidGates(value)


class Quarter:
    """Streets and the gates at which a town around can meet them; it never changes."""

    def __init__(self, streets, gates):
        check_streets(streets)
        check_gates(gates)
        self._streets = sorted(streets)
        self._gates = sorted(gates)

    def streets(self):
        """Return the streets, ascending."""
        return list(self._streets)

    def gates(self):
        """Return the gates, ascending."""
        return list(self._gates)

    def __eq__(self, other):
        return isinstance(other, Quarter) and self._streets == other._streets and self._gates == other._gates


class Town:
    """The streets around a quarter; it never changes."""

    def __init__(self, streets):
        check_streets(streets)
        self._streets = sorted(streets)

    def streets(self):
        """Return the streets, ascending."""
        return list(self._streets)

    def __eq__(self, other):
        return isinstance(other, Town) and self._streets == other._streets


def check_quarter(value):
    """Raise InvalidQuarter unless any object is a quarter."""
    if not isinstance(value, Quarter):
        raise InvalidQuarter(value)


def check_town(value):
    """Raise InvalidTown unless any object is a town."""
    if not isinstance(value, Town):
        raise InvalidTown(value)


def check_pair(elder, newer):
    """Raise InvalidQuarter or Unlike unless two objects are quarters with the same gates."""
    check_quarter(elder)
    check_quarter(newer)
    if elder.gates() != newer.gates():
        raise Unlike(newer)


def ends_of(streets):
    """Return the starts and ends of streets, as they come."""
    return [street[1] for street in streets] + [street[2] for street in streets]


def crossings_of(quarter):
    """Return the ascending list of a quarter's crossings, its gates among them."""
    check_quarter(quarter)
    return sorted(set(ends_of(quarter.streets()) + quarter.gates()))


def street_of(quarter, name):
    """Return the street of a quarter that bears a name."""
    check_quarter(quarter)
    for street in quarter.streets():
        if street[0] == name:
            return street
    raise InvalidName(name)


def places_of(town):
    """Return the ascending list of a town's places."""
    check_town(town)
    return sorted(set(ends_of(town.streets())))


def asked_of(quarter, town):
    """Return the ascending list of the places of a net that can be asked of."""
    check_quarter(quarter)
    check_town(town)
    return sorted(set(quarter.gates() + places_of(town)))


def is_change(value):
    """Return whether any object is a change by its form."""
    if not isinstance(value, tuple):
        return False
    if len(value) == 3:
        return value[0] in ("width", "length") and is_word(value[1]) and is_count(value[2])
    if len(value) != 2:
        return False
    if value[0] == "put":
        return is_street(value[1])
    return value[0] in ("out", "turn") and is_word(value[1])


def are_changes_by_form(value):
    """Return whether any object is a list of changes by their form."""
    return isinstance(value, list) and all([is_change(change) for change in value])


def _altered(street, change):
    """Return a street with the width, the length or the direction that a change tells."""
    name, start, end, width, length = street
    if change[0] == "width":
        return (name, start, end, change[2], length)
    if change[0] == "length":
        return (name, start, end, width, change[2])
    return (name, end, start, width, length)


def _changed_streets(streets, change):
    """Return the streets with a change, None if it does not fit."""
    if change[0] == "put":
        is_there = change[1][0] in [street[0] for street in streets]
        return None if is_there else streets + [change[1]]
    others = [street for street in streets if street[0] != change[1]]
    if len(others) == len(streets):
        return None
    if change[0] == "out":
        return others
    altered = [_altered(street, change) for street in streets if street[0] == change[1]]
    # A width or a length that the street has already is no change.
    return None if altered[0] in streets else others + altered


def fitted(quarter, change):
    """Return the quarter with a change that is one by its form, None if it does not fit."""
    streets = _changed_streets(quarter.streets(), change)
    return None if streets is None else Quarter(streets, quarter.gates())


def changed(quarter, change):
    """Return the quarter with a change."""
    check_quarter(quarter)
    after = fitted(quarter, change) if is_change(change) else None
    if after is None:
        raise InvalidChange(change)
    return after


def changed_by(quarter, changes):
    """Return the quarter with a list of changes, one after the other."""
    check_quarter(quarter)
    if not are_changes_by_form(changes):
        raise InvalidChanges(changes)
    after = quarter
    for change in changes:
        after = changed(after, change)
    return after


def _street_changes(before, after):
    """Return the fewest changes from one street to another of its name; None is no street."""
    if before is None:
        return [("put", after)]
    name = before[0]
    if after is None:
        return [("out", name)]
    if before == after:
        return []
    for change in [("width", name, after[3]), ("length", name, after[4]), ("turn", name)]:
        if _altered(before, change) == after:
            return [change]
    return [("out", name), ("put", after)]


def told_changes(elder, newer):
    """Return a list of the fewest changes that leads from one quarter to the other."""
    check_pair(elder, newer)
    before = {street[0]: street for street in elder.streets()}
    after = {street[0]: street for street in newer.streets()}
    changes = []
    # No change concerns two names, so the fewest for each name are the fewest in all.
    for name in sorted(set(list(before) + list(after))):
        changes.extend(_street_changes(before.get(name), after.get(name)))
    return changes


def are_changes(elder, newer, value):
    """Return whether any object is a list of the fewest changes between two quarters."""
    fewest = told_changes(elder, newer)
    if not are_changes_by_form(value) or len(value) != len(fewest):
        return False
    after = elder
    for change in value:
        after = fitted(after, change)
        if after is None:
            return False
    return after == newer


def mirrored(quarter):
    """Return the quarter with all streets turned."""
    check_quarter(quarter)
    return Quarter(turned(quarter.streets()), quarter.gates())


def _rows_from_gates(streets, gates):
    """Return the rows of fewest streets from any gate, as shortest_rows tells them."""
    # Among rows that are all of length 0 the best ones are those of fewest streets.
    steps = [(name, start, end, width, 0) for name, start, end, width, _ in streets]
    return shortest_rows(steps, gates)


def idle_names(quarter):
    """Return the ascending list of the names of idle streets."""
    check_quarter(quarter)
    streets = quarter.streets()
    into = _rows_from_gates(streets, quarter.gates())
    back = _rows_from_gates(turned(streets), quarter.gates())
    return [street[0] for street in streets
            if street[3] == 0 or street[1] not in into or street[2] not in back]


def trimmed(quarter):
    """Return the quarter without its idle streets."""
    idle = idle_names(quarter)
    return Quarter([street for street in quarter.streets() if street[0] not in idle], quarter.gates())


def live_row(quarter, name):
    """Return a row of as few streets as can be through a street, None if it is idle."""
    street = street_of(quarter, name)
    if name in idle_names(quarter):
        return None
    streets = quarter.streets()
    into = _rows_from_gates(streets, quarter.gates())[street[1]][1]
    back = _rows_from_gates(turned(streets), quarter.gates())[street[2]][1]
    return [street_of(quarter, word) for word in into + [name] + back[::-1]]


def is_live_row(quarter, name, value):
    """Return whether any object is a row of as few streets as can be through a street."""
    fewest = live_row(quarter, name)
    if fewest is None or not isinstance(value, list) or len(value) != len(fewest):
        return False
    streets, gates = quarter.streets(), quarter.gates()
    # A tuple with True for 1 equals the street, but is none.
    if not all([is_street(street) and street in streets for street in value]):
        return False
    if not is_row(value) or name not in [street[0] for street in value]:
        return False
    return value[0][1] in gates and value[-1][2] in gates
