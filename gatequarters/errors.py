"""The errors of this package.

Each class stands right below GateError and has an __init__ of its own, so that a
handler for one of them never takes another one.
"""


class GateError(ValueError):
    """The errors of this package are all derived from this one."""


class InvalidStreets(GateError):
    """An argument is no list of streets with unlike names."""

    def __init__(self, value=None):
        self.value = value


class InvalidGates(GateError):
    """An argument is no list of unlike gates, at least one."""

    def __init__(self, value=None):
        self.value = value


class InvalidQuarter(GateError):
    """An argument is no quarter."""

    def __init__(self, value=None):
        self.value = value


class InvalidQuarters(GateError):
    """An argument is no list of quarters."""

    def __init__(self, value=None):
        self.value = value


class InvalidTown(GateError):
    """An argument is no town."""

    def __init__(self, value=None):
        self.value = value


class InvalidPlace(GateError):
    """An argument is no place that can be asked of."""

    def __init__(self, value=None):
        self.value = value


class InvalidName(GateError):
    """An argument is not the name of a street."""

    def __init__(self, value=None):
        self.value = value


class InvalidChange(GateError):
    """A change does not fit."""

    def __init__(self, value=None):
        self.value = value


class InvalidChanges(GateError):
    """An argument is no list of changes."""

    def __init__(self, value=None):
        self.value = value


class InvalidCount(GateError):
    """An argument is no count, or none within its bounds."""

    def __init__(self, value=None):
        self.value = value


class InvalidMeasure(GateError):
    """An argument is no measure."""

    def __init__(self, value=None):
        self.value = value


class InvalidFlow(GateError):
    """An argument is no flow."""

    def __init__(self, value=None):
        self.value = value


class InvalidCut(GateError):
    """An argument is no cut."""

    def __init__(self, value=None):
        self.value = value


class InvalidTable(GateError):
    """An argument is no table."""

    def __init__(self, value=None):
        self.value = value


class InvalidLot(GateError):
    """An argument is no lot."""

    def __init__(self, value=None):
        self.value = value


class InvalidSupply(GateError):
    """An argument is no supply."""

    def __init__(self, value=None):
        self.value = value


class InvalidPlan(GateError):
    """An argument is no plan."""

    def __init__(self, value=None):
        self.value = value


class InvalidDealing(GateError):
    """An argument is no dealing."""

    def __init__(self, value=None):
        self.value = value


class InvalidParting(GateError):
    """An argument is no parting."""

    def __init__(self, value=None):
        self.value = value


class InvalidCity(GateError):
    """An argument is no city."""

    def __init__(self, value=None):
        self.value = value


class InvalidSpot(GateError):
    """An argument is no spot of a city."""

    def __init__(self, value=None):
        self.value = value


class InvalidPromise(GateError):
    """An argument is no kind of a promise."""

    def __init__(self, value=None):
        self.value = value


class InvalidScript(GateError):
    """An argument is no script."""

    def __init__(self, value=None):
        self.value = value


class InvalidText(GateError):
    """An argument is no text that a writer makes."""

    def __init__(self, value=None):
        self.value = value


class InvalidLog(GateError):
    """An argument is no log."""

    def __init__(self, value=None):
        self.value = value


class Unlike(GateError):
    """The second one of two quarters has other gates than the first one."""

    def __init__(self, value=None):
        self.value = value


class Refused(GateError):
    """A command of a city, or a quarter, cannot be taken."""

    def __init__(self, value=None):
        self.value = value


class NothingToUndo(GateError):
    """No command is left that could be taken back."""


class NothingToRedo(GateError):
    """No command was taken back that could be made again."""
