"""Quarters while works are done in them, one behind the other or several at once.

A lot of works is an ascending list of their positions. A state of affairs is told by two of
them: the works that are done, and those that are being done.
"""

from itertools import combinations

from gatequarters.entries import entries_of, is_worse, worse_keys
from gatequarters.lots import are_positions
from gatequarters.quarters import Quarter
from gatequarters.streams import shut_streets


def quarter_while(quarter, works, done, now):
    """Return the quarter with some works done while others are being done."""
    ready = [works[at] for at in done]
    names = [street[0] for street in ready]
    streets = shut_streets(quarter.streets(), [works[at][0] for at in now])
    return Quarter([street for street in streets if street[0] not in names] + ready, quarter.gates())


def _grown(lot, more):
    """Return a lot with some works more."""
    return sorted(lot + more)


class Worksite:
    """The works of a quarter, held against what it must not fall below."""

    def __init__(self, quarter, works, measure, floor):
        self._quarter = quarter
        self._works = works
        self._measure = measure
        self._floor = floor
        self._known = {}

    def every_work(self):
        """Return the lot of all works."""
        return list(range(len(self._works)))

    def entries(self, done, now):
        """Return the table with some works done while others are being done."""
        state = (tuple(done), tuple(now))
        if state not in self._known:
            after = quarter_while(self._quarter, self._works, done, now)
            self._known[state] = entries_of(after.streets(), after.gates(), self._measure)
        return self._known[state]

    def holds(self, done, now):
        """Return whether no entry is worse than the floor's while some works are being done."""
        return not worse_keys(self._measure, self.entries(done, now), self._floor)

    def may_follow(self, done, night):
        """Return whether some works may be done at once behind others."""
        return self.holds(done, night) and self.holds(_grown(done, night), [])

    def orders(self):
        """Return a list with a dictionary for each number of works, as far as any order leads.

        It goes from the lots, as tuples, that stand behind the first works of some order, all
        of which hold, to these works in such an order.
        """
        level = {(): []} if self.holds([], []) else {}
        levels = []
        while level:
            levels.append(level)
            further = {}
            for lot in level:
                for work in self.every_work():
                    if work not in lot and self.may_follow(list(lot), [work]):
                        further[tuple(_grown(list(lot), [work]))] = level[lot] + [work]
            level = further
        return levels

    def nights(self, most_works):
        """Return a list of lots of at most so many works that are done at once, as few as can be.

        None if there is none.
        """
        level = {(): []} if self.holds([], []) else {}
        while level and tuple(self.every_work()) not in level:
            further = {}
            for lot in level:
                left = [work for work in self.every_work() if work not in lot]
                for night in _lots_to(left, most_works):
                    if self.may_follow(list(lot), night):
                        further[tuple(_grown(list(lot), night))] = level[lot] + [night]
            level = further
        return level.get(tuple(self.every_work()))

    def are_safe_nights(self, value):
        """Return whether a list of lots of works, each of them once, is safe."""
        done = []
        if not self.holds(done, []):
            return False
        for night in value:
            if not self.may_follow(done, night):
                return False
            done = _grown(done, night)
        return True

    def is_closed(self, lots):
        """Return whether a list of lots has with each one all those of a work more that may follow."""
        for lot in lots:
            for work in self.every_work():
                if work not in lot and self.may_follow(lot, [work]) and _grown(lot, [work]) not in lots:
                    return False
        return True

    def first_that_fails(self, order):
        """Return a tuple (done, now) of lots, the first ones of an order that do not hold, or None."""
        for many in range(len(order) + 1):
            done = sorted(order[:many])
            for now in [[], order[many:many + 1]]:
                if not self.holds(done, now):
                    return (done, now)
        return None


def _lots_to(works, most_works):
    """Return the lots of at least one and at most so many of some works."""
    return [list(night) for many in range(1, int(min(most_works, len(works))) + 1)
            for night in combinations(works, many)]


def are_lots_of(value, many):
    """Return whether any object is a list of lots of so many works."""
    return isinstance(value, list) and all([are_positions(lot, many) for lot in value])


def is_order(value, many):
    """Return whether any object is a list of all positions of so many works, each once."""
    if not isinstance(value, list) or not all([are_positions([at], many) for at in value]):
        return False
    return sorted(value) == list(range(many))


def worst_of(measure, values):
    """Return the worst one of some values of a measure, at least one."""
    worst = values[0]
    for value in values:
        if is_worse(measure, value, worst):
            worst = value
    return worst


def order_values(worksite, measure, key, order):
    """Return the values of an entry in all moments of an order."""
    values = []
    for many in range(len(order) + 1):
        done = sorted(order[:many])
        values.extend([worksite.entries(done, now)[key] for now in [[], order[many:many + 1]]])
    return values


def best_kept_order(worksite, measure, key):
    """Return a tuple (value, order): the best value that some order never falls below, and it."""
    level = {(): (worksite.entries([], [])[key], [])}
    for _ in worksite.every_work():
        further = {}
        for lot in level:
            for work in worksite.every_work():
                if work in lot:
                    continue
                grown = _grown(list(lot), [work])
                told = [worksite.entries(list(lot), [work])[key], worksite.entries(grown, [])[key]]
                worst = worst_of(measure, told + [level[lot][0]])
                found = further.get(tuple(grown))
                if found is None or is_worse(measure, found[0], worst):
                    further[tuple(grown)] = (worst, level[lot][1] + [work])
        level = further
    return level[tuple(worksite.every_work())]
