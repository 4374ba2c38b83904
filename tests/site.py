"""What the tests of works share: quarters while works are done, by sight, and drawn works."""

from gatequarters.quarters import Quarter
from tests.support import table_by_search


def while_done(quarter, works, done, now):
    """Return the quarter with some works done while others are being done, street by street."""
    streets = {street[0]: street for street in quarter.streets()}
    for at in now:
        if works[at][0] in streets:
            name, start, end, _, length = streets[works[at][0]]
            streets[name] = (name, start, end, 0, length)
    for at in done:
        streets[works[at][0]] = works[at]
    return Quarter(list(streets.values()), quarter.gates())


def is_worse(measure, value, other):
    """Return whether a value of a measure is worse than another one."""
    if measure == "way":
        return value != other and (value is None or (other is not None and value > other))
    return value < other


class Moments:
    """The tables of all moments of some works, each looked up once."""

    def __init__(self, quarter, works, floor, measure):
        self.arguments = (quarter, works)
        self.measure = measure
        self.floor = table_by_search(floor, measure)
        self.tables = {}

    def table(self, done, now=()):
        key = (frozenset(done), frozenset(now))
        if key not in self.tables:
            self.tables[key] = table_by_search(while_done(*self.arguments, sorted(done), sorted(now)), self.measure)
        return self.tables[key]

    def holds(self, done, now=()):
        table = self.table(done, now)
        return not any(is_worse(self.measure, table[key], self.floor[key]) for key in table)

    def moments(self, order):
        """Return the moments of an order, as tuples (done, now)."""
        told = [([], [])]
        for k, work in enumerate(order):
            told += [(order[:k], [work]), (order[:k + 1], [])]
        return told

    def is_safe(self, order):
        return all(self.holds(done, now) for done, now in self.moments(order))

    def are_safe_nights(self, nights):
        done = []
        if not self.holds(done):
            return False
        for night in nights:
            if not self.holds(done, night) or not self.holds(done + night):
                return False
            done = done + night
        return True

    def worst(self, order, key):
        """Return the worst value of an entry in all moments of an order."""
        worst = self.table([])[key]
        for done, now in self.moments(order):
            value = self.table(done, now)[key]
            if is_worse(self.measure, value, worst):
                worst = value
        return worst


def busy_streets(chance, names, gates, widths):
    """Return a random street for each name, most of them on rows from the first gate to the second one."""
    pairs = [("a", "b"), ("a", "b"), ("a", "x"), ("x", "b")] + ([("b", "c"), ("a", "c")] if "c" in gates else [])
    streets = []
    for name in names:
        start, end = chance.choice(pairs) if "b" in gates else chance.choice([("a", "x"), ("x", "a")])
        streets.append((name, start, end, chance.choice(widths), chance.choice([0, 1, 2])))
    return streets


def drawn_site(chance, most_works, most_streets=5):
    """Return a random quarter, works in it, and a floor that is held at times."""
    gates = chance.choice([["a", "b"], ["a", "b"], ["a", "b"], ["a", "b", "c"], ["a"]])
    names = list("stuvw")[:chance.randint(1, most_streets)]
    quarter = Quarter(busy_streets(chance, names, gates, [0, 1, 1, 2, 3]), gates)
    chosen = names + ["n", "o"]
    chance.shuffle(chosen)
    works = busy_streets(chance, chosen[:chance.randint(0, most_works)], gates, [0, 1, 2, 3])
    kind = chance.random()
    rows = [(name, start, end, max(0, width - chance.choice([0, 0, 1])), length + chance.choice([0, 0, 3]))
            for name, start, end, width, length in quarter.streets() if chance.random() < kind]
    if chance.random() < 0.2:
        rows.append(("z", "a", gates[-1] if len(gates) > 1 else "x", 1, 9))
    return quarter, works, Quarter(rows, gates)
