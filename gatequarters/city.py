"""A city whose quarters are exchanged only if its promises are kept."""

from gatequarters.counts import check_count_to, is_count
from gatequarters.errors import InvalidCity, InvalidLog, InvalidPromise, InvalidSpot
from gatequarters.errors import NothingToRedo, NothingToUndo, Refused, Unlike
from gatequarters.measures import check_measure
from gatequarters.nets import is_question
from gatequarters.quarters import Quarter, changed_by, check_gates, check_pair, check_quarter, street_of
from gatequarters.searching import open_names
from gatequarters.streams import set_lengths, set_widths
from gatequarters.tables import answer_by
from gatequarters.wholes import breaking_keys, breaks, town_at, whole_entries, whole_of, with_quarter

_PROMISED = ("way", "widest", "most", "shut1")
_KINDS = ("alike", "never_worse")
# Each command with how many things stand behind its word.
_COMMANDS = {"promise": 2, "release": 1, "put": 1, "take": 1, "exchange": 2, "change": 2, "force": 2}


def promised_measures():
    """Return the list of the measures that can be promised."""
    return list(_PROMISED)


def promise_kinds():
    """Return the list of the kinds of promises."""
    return list(_KINDS)


class Trial:
    """A block; when it is left, the city is as it was when the block was entered."""

    def __init__(self, city):
        self._city = city
        self._state = None
        self._past = None
        self._ahead = None

    def __enter__(self):
        city = self._city
        # A city never changes these in place, it exchanges them.
        self._state = city._state
        self._past = city._past
        self._ahead = city._ahead
        return city

    def __exit__(self, kind, value, trace):
        city = self._city
        city._state = self._state
        city._past = self._past
        city._ahead = self._ahead


class City:
    """Quarters at spots, and promises about the whole that they make."""

    def __init__(self, gates):
        check_gates(gates)
        self._gates = sorted(gates)
        # The quarters by their spots, the least spot that none has had, and the promises, each
        # with the table of its promised whole.
        self._state = ({}, 0, [])
        # The commands with the states ahead of them, and those taken back with the states behind.
        self._past = []
        self._ahead = []

    def gates(self):
        """Return the gates, ascending."""
        return list(self._gates)

    def spots(self):
        """Return the ascending list of the spots at which quarters lie."""
        return list(self._state[0])

    def quarter(self, spot):
        """Return the quarter at a spot."""
        if not is_count(spot) or spot not in self._state[0]:
            raise InvalidSpot(spot)
        return self._state[0][spot]

    def whole(self):
        """Return the quarter that all quarters make, glued where their gates bear the same words."""
        return whole_of(self._gates, self._state[0])

    def _step(self, command, state):
        """Take a command, behind which a state comes."""
        self._past = self._past + [(command, self._state)]
        self._state = state
        self._ahead = []

    def promise(self, measure, kind):
        """Promise of what lies here now that it stays as it is, or gets no worse; return the position."""
        check_measure(measure, promised_measures())
        if kind not in _KINDS:
            raise InvalidPromise(kind)
        quarters, had, promises = self._state
        promised = (measure, kind, quarters, whole_entries(self._gates, quarters, measure))
        self._step(("promise", measure, kind), (quarters, had, promises + [promised]))
        return len(promises)

    def promises(self):
        """Return the list of the promises (measure, kind, quarters), the eldest first."""
        return [(measure, kind, {spot: quarters[spot] for spot in quarters})
                for measure, kind, quarters, _ in self._state[2]]

    def _promise_at(self, at):
        """Return the promise at a position, with its table."""
        promises = self._state[2]
        check_count_to(at, len(promises) - 1)
        return promises[at]

    def release(self, at):
        """Take the promise at a position away; those behind it move up."""
        self._promise_at(at)
        quarters, had, promises = self._state
        self._step(("release", at), (quarters, had, promises[:at] + promises[at + 1:]))

    def _broken_with(self, quarters):
        """Return the ascending list of the positions of the promises that some quarters break."""
        promises = self._state[2]
        tables = {measure: whole_entries(self._gates, quarters, measure)
                  for measure in sorted({promise[0] for promise in promises})}
        return [at for at, (measure, kind, _, promised) in enumerate(promises)
                if breaking_keys(measure, kind, promised, tables[measure])]

    def broken(self):
        """Return the ascending list of the positions of the promises that are not kept."""
        return self._broken_with(self._state[0])

    def _newly_broken(self, layouts):
        """Return for each of some layouts of quarters the promises, kept now, that it breaks."""
        broken = self.broken()
        return [[at for at in self._broken_with(quarters) if at not in broken] for quarters in layouts]

    def _look_at(self, quarters, value):
        """Raise Refused with an argument if some quarters break a promise that is kept now."""
        if self._newly_broken([quarters]) != [[]]:
            raise Refused(value)

    def witness(self, at):
        """Return a tuple (town, start, goal) that finds a promise broken, None if it is kept."""
        measure, kind, quarters, promised = self._promise_at(at)
        own = self._state[0]
        keys = breaking_keys(measure, kind, promised, whole_entries(self._gates, own, measure))
        if not keys:
            return None
        return town_at(self._gates, measure, keys[0], list(quarters.values()) + list(own.values()))

    def is_witness(self, at, value):
        """Return whether any object is a tuple (town, start, goal) that finds a promise broken."""
        measure, kind, _, promised = self._promise_at(at)
        if not is_question(Quarter([], self._gates), value):
            return False
        town, start, goal = value
        entries = whole_entries(self._gates, self._state[0], measure)
        answers = [answer_by(self._gates, measure, table, town, start, goal) for table in (promised, entries)]
        return breaks(measure, kind, answers[0], answers[1])

    def put(self, quarter):
        """Put a quarter at the least spot that none has had, and return the spot."""
        check_quarter(quarter)
        quarters, had, promises = self._state
        after = with_quarter(quarters, had, quarter)
        self._look_at(after, quarter)
        self._step(("put", quarter), (after, had + 1, promises))
        return had

    def take(self, spot):
        """Take the quarter at a spot away."""
        self.quarter(spot)
        quarters, had, promises = self._state
        after = with_quarter(quarters, spot, None)
        self._look_at(after, spot)
        self._step(("take", spot), (after, had, promises))

    def _exchanged(self, spot, quarter):
        """Return the quarters with another one with the same gates at a spot."""
        check_pair(self.quarter(spot), quarter)
        return with_quarter(self._state[0], spot, quarter)

    def exchange(self, spot, quarter):
        """Put a quarter with the same gates in the place of the one at a spot."""
        after = self._exchanged(spot, quarter)
        self._look_at(after, quarter)
        self._step(("exchange", spot, quarter), (after,) + self._state[1:])

    def change(self, spot, changes):
        """Change the quarter at a spot."""
        after = with_quarter(self._state[0], spot, changed_by(self.quarter(spot), changes))
        self._look_at(after, changes)
        self._step(("change", spot, list(changes)), (after,) + self._state[1:])

    def force(self, spot, quarter):
        """Put a quarter with the same gates in the place of the one at a spot, whatever it breaks."""
        after = self._exchanged(spot, quarter)
        self._step(("force", spot, quarter), (after,) + self._state[1:])

    def barring(self, spot, quarter):
        """Return the ascending list of the positions of the promises, kept now, that bar a quarter."""
        return self._newly_broken([self._exchanged(spot, quarter)])[0]

    def _kept(self, spot, things, altered):
        """Return those of some things with which a quarter's streets, altered so, break no promise."""
        streets, gates = self.quarter(spot).streets(), self.quarter(spot).gates()
        layouts = [with_quarter(self._state[0], spot, Quarter(altered(streets, thing), gates))
                   for thing in things]
        return [thing for thing, bars in zip(things, self._newly_broken(layouts)) if not bars]

    def kept_widths(self, spot, name):
        """Return the ascending list of the widths up to 9 with which a street breaks no promise."""
        street_of(self.quarter(spot), name)
        return self._kept(spot, list(range(10)), lambda streets, width: set_widths(streets, [name], width))

    def kept_lengths(self, spot, name):
        """Return the ascending list of the lengths up to 9 with which a street breaks no promise."""
        street_of(self.quarter(spot), name)
        return self._kept(spot, list(range(10)), lambda streets, length: set_lengths(streets, [name], length))

    def spare_streets(self, spot):
        """Return the ascending list of the open streets each of which alone may be shut."""
        names = open_names(self.quarter(spot).streets())
        return self._kept(spot, names, lambda streets, name: set_widths(streets, [name], 0))

    def undo(self):
        """Take back the last command."""
        if not self._past:
            raise NothingToUndo()
        command, state = self._past[-1]
        self._ahead = self._ahead + [(command, self._state)]
        self._past = self._past[:-1]
        self._state = state

    def redo(self):
        """Make the command again that was taken back last."""
        if not self._ahead:
            raise NothingToRedo()
        command, state = self._ahead[-1]
        self._past = self._past + [(command, self._state)]
        self._ahead = self._ahead[:-1]
        self._state = state

    def trial(self):
        """Return a block; when it is left, the city is as it was when the block was entered."""
        return Trial(self)

    def attempt(self, action):
        """Call a function with the city in a block, and return what it returns."""
        with self.trial():
            return action(self)

    def copy(self):
        """Return an independent city that is the same, what can be undone and made again, too."""
        twin = City(self._gates)
        twin._state = self._state
        twin._past = self._past
        twin._ahead = self._ahead
        return twin

    def log(self):
        """Return the list of the commands that are not taken back."""
        return [tuple([list(thing) if isinstance(thing, list) else thing for thing in command])
                for command, _ in self._past]


def check_city(value):
    """Raise InvalidCity unless any object is a city."""
    if not isinstance(value, City):
        raise InvalidCity(value)


def _is_logged(value):
    """Return whether any object is a tuple of a command's word and as many things as it takes."""
    if not isinstance(value, tuple) or not value or not isinstance(value[0], str):
        return False
    return len(value) - 1 == _COMMANDS.get(value[0])


def made(city, command):
    """Make a command of a log in a city, and return what its method returns."""
    calls = {
        "promise": city.promise, "release": city.release, "put": city.put, "take": city.take,
        "exchange": city.exchange, "change": city.change, "force": city.force,
    }
    call = calls[command[0]]
    things = list(command[1:])
    return call(*things)


def replayed(city, log):
    """Return a copy of a city in which the commands of a log are made behind."""
    check_city(city)
    if not isinstance(log, list) or not all([_is_logged(command) for command in log]):
        raise InvalidLog(log)
    twin = city.copy()
    for command in log:
        made(twin, command)
    return twin


def told_apart(one, other, measure):
    """Return a tuple (town, start, goal) that tells the wholes of two cities apart, None if none does."""
    check_city(one)
    check_city(other)
    if one.gates() != other.gates():
        raise Unlike(other.whole())
    check_measure(measure, promised_measures())
    layouts = [{spot: city.quarter(spot) for spot in city.spots()} for city in (one, other)]
    tables = [whole_entries(one.gates(), quarters, measure) for quarters in layouts]
    keys = breaking_keys(measure, "alike", tables[0], tables[1])
    if not keys:
        return None
    return town_at(one.gates(), measure, keys[0], [one.whole(), other.whole()])
