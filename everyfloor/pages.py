"""The lines of pages: entries first, then guards."""

from everyfloor.errors import BadLine, BadName, BadText, Circle, EveryfloorError, Refused
from everyfloor.naming import is_name
from everyfloor.reading import Reading
from everyfloor.shelves import Shelf, check_known, needed, with_readings

ALWAYS = "always "


def lines_of_page(page):
    """(lines of entries, lines of guards)."""
    lines = page.split("\n") if page != "" else []
    for number, line in enumerate(lines):
        if line.startswith(ALWAYS):
            return lines[:number], lines[number:]
    return lines, []


def page_of(shelf):
    """The text of the lines that tell what is on a shelf."""
    lines = [f"{name} = {entry.reading.text}" for name, entry in shelf.entries.items()]
    return "\n".join(lines + [f"{ALWAYS}{name}: {guard.reading.text}" for name, guard in shelf.guards.items()])


def shelf_of(lines):
    """The shelf with the entries that the lines tell; each check looks at all lines ahead of the next check."""
    readings = _readings_of(lines)
    _check_names(readings)
    for number, name in enumerate(list(readings), start=1):
        if name in needed(readings[name], readings):
            raise BadLine(number, Circle(name))
    try:
        return with_readings(Shelf({}, {}), readings, readings)
    except Refused as why:
        raise BadLine(list(readings).index(why.name) + 1, why)


def guard_of(line):
    """(name, text) of the guard that the line tells."""
    if not line.startswith(ALWAYS) or ": " not in line[len(ALWAYS):]:
        raise BadText(0)
    name, _, text = line[len(ALWAYS):].partition(": ")
    return name, text


def _readings_of(lines):
    """The readings of the texts of entries by the names; the line with the number k tells the k-th name."""
    readings = {}
    for number, line in enumerate(lines, start=1):
        try:
            name, text = _entry_of(line, readings)
            readings[name] = Reading(text, "formula", True)
        except EveryfloorError as why:
            raise BadLine(number, why)
    return readings


def _entry_of(line, known):
    """(name, text) of the entry that the line tells, with a name that is not known yet."""
    if " = " not in line:
        raise BadText(0)
    name, _, text = line.partition(" = ")
    if not is_name(name) or name in known:
        raise BadName(name)
    return name, text


def _check_names(readings):
    for number, reading in enumerate(list(readings.values()), start=1):
        try:
            check_known(reading, readings)
        except EveryfloorError as why:
            raise BadLine(number, why)
