"""Commands of scripts: their forms, and their texts."""

from gatequarters.city import promise_kinds, promised_measures
from gatequarters.counts import is_count
from gatequarters.pieces import change_in, change_line, count_in, quarter_in, quarter_lines
from gatequarters.quarters import Quarter, are_changes_by_form

# What stands behind the word of each command.
_FORMS = {
    "promise": ("measure", "kind"), "release": ("count",), "put": ("quarter",), "take": ("count",),
    "exchange": ("count", "quarter"), "change": ("count", "changes"), "force": ("count", "quarter"),
    "barring": ("count", "quarter"), "spare": ("count",), "broken": (), "undo": (), "redo": (),
    "try": ("script",),
}
# What is written in lines of its own behind a command.
_BLOCKS = ("quarter", "changes", "script")


def _is_thing(form, value):
    """Return whether any object is a thing of a form."""
    if form == "quarter":
        return isinstance(value, Quarter)
    if form == "count":
        return is_count(value)
    if form == "changes":
        return are_changes_by_form(value)
    if form == "script":
        return is_script(value)
    return value in (promised_measures() if form == "measure" else promise_kinds())


def _is_command(value):
    """Return whether any object is a command of a script."""
    if not isinstance(value, tuple) or not value or not isinstance(value[0], str) or value[0] not in _FORMS:
        return False
    forms = _FORMS[value[0]]
    if len(value) != 1 + len(forms):
        return False
    return all([_is_thing(form, thing) for form, thing in zip(forms, value[1:])])


def is_script(value):
    """Return whether any object is a script."""
    return isinstance(value, list) and all([_is_command(command) for command in value])


def copied(script):
    """Return a script of equal commands that shares no list with it."""
    return [_copied_command(command) for command in script]


def _copied_command(command):
    """Return an equal command that shares no list with it."""
    if command[0] == "try":
        return ("try", copied(command[1]))
    return tuple([list(thing) if isinstance(thing, list) else thing for thing in command])


def _block_lines(form, thing):
    """Return the lines of a quarter, of changes or of a script."""
    if form == "quarter":
        return quarter_lines(thing)
    if form == "changes":
        return [change_line(change) for change in thing]
    return script_lines(thing)


def script_lines(script):
    """Return the lines of a script."""
    lines = []
    for command in script:
        forms = _FORMS[command[0]]
        things = list(zip(forms, command[1:]))
        pieces = [str(piece) for kind, piece in things if kind not in _BLOCKS]
        lines.append(" ".join([command[0]] + pieces))
        for form, thing in things:
            if form in _BLOCKS:
                lines.extend(["  " + line for line in _block_lines(form, thing)] + ["end"])
    return lines


def _block_in(form, lines):
    """Return the quarter, the changes or the script that some lines tell; None stands for nothing."""
    if form == "quarter":
        return quarter_in(lines)
    if form == "changes":
        return [change_in(line) for line in lines]
    return script_in(lines)


def _thing_in(form, piece):
    """Return the thing of a form that a piece of a line tells."""
    return count_in(piece) if form == "count" else piece


def _block_length(lines):
    """Return how many of some lines, from the first one on, are further in than their command."""
    many = 0
    while many < len(lines) and lines[many].startswith("  "):
        many += 1
    return many


def script_in(lines):
    """Return the list of the commands that some lines tell, right ones or not."""
    script = []
    at = 0
    while at < len(lines):
        pieces = lines[at].split(" ")
        at += 1
        forms = _FORMS.get(pieces[0], ())
        things = pieces[:1] + [_thing_in(form, piece) for form, piece in zip(forms, pieces[1:])]
        if forms and forms[-1] in _BLOCKS:
            many = _block_length(lines[at:])
            things.append(_block_in(forms[-1], [line[2:] for line in lines[at:at + many]]))
            # The line behind them is the end.
            at += many + 1
        script.append(tuple(things))
    return script
