"""Scripts of commands for a city: what is said as they are played, and their texts."""

from gatequarters.city import City, check_city, made
from gatequarters.commands import copied, is_script, script_in, script_lines
from gatequarters.errors import GateError, InvalidScript, InvalidText
from gatequarters.pieces import lines_of, text_of
from gatequarters.quarters import check_gates


def _check_script(value):
    """Raise InvalidScript unless any object is a script."""
    if not is_script(value):
        raise InvalidScript(value)


def _answer(city, command):
    """Carry out a command on a city, and return what is said if nothing refuses it."""
    word = command[0]
    if word == "barring":
        return ("barred", city.barring(command[1], command[2]))
    if word == "spare":
        return ("spare", city.spare_streets(command[1]))
    if word == "broken":
        return ("broken", city.broken())
    if word == "undo":
        city.undo()
    elif word == "redo":
        city.redo()
    else:
        told = made(city, command)
        if word == "promise":
            return ("promised", told)
        if word == "put":
            return ("put", told)
    return ("done",)


def _said(city, command):
    """Carry out a command on a city, and return what is said."""
    if command[0] == "try":
        with city.trial():
            return ("tried", _played(city, command[1]))
    try:
        return _answer(city, command)
    except GateError as error:
        return ("refused", error.__class__.__name__)


def _played(city, script):
    """Carry out the commands of a script on a city, and return the list of what is said."""
    return [_said(city, command) for command in script]


def play(city, script):
    """Carry out a script on a city, and return the list of what is said, a tuple for each command."""
    check_city(city)
    _check_script(script)
    return _played(city, script)


def script_text(script):
    """Return the text of a script."""
    _check_script(script)
    return text_of(script_lines(script))


def read_script(text):
    """Return the script that has a text."""
    if not isinstance(text, str):
        raise InvalidText(text)
    script = script_in(lines_of(text))
    # What was left out while it was read makes another text.
    if not is_script(script) or script_text(script) != text:
        raise InvalidText(text)
    return script


def _end(gates, script):
    """Return the quarters and the promises of a new city behind a script."""
    city = City(gates)
    _played(city, script)
    return ({spot: city.quarter(spot) for spot in city.spots()}, city.promises())


def end_of(gates, script):
    """Return a tuple (quarters, promises) of what a script makes of a new city."""
    check_gates(gates)
    _check_script(script)
    return _end(gates, script)


def shortened(gates, script):
    """Return a script without the commands that change nothing at its end, left out one by one."""
    end = end_of(gates, script)
    left = copied(script)
    for at in range(len(script) - 1, -1, -1):
        shorter = left[:at] + left[at + 1:]
        if _end(gates, shorter) == end:
            left = shorter
    return left
