"""What a book has at one time: entries and guards by their names. Steps make new shelves; no shelf changes."""

from everyfloor.claims import alike, always
from everyfloor.errors import BadName, Broken, Circle, EveryfloorError, InUse, Refused, UnknownName
from everyfloor.making import made
from everyfloor.naming import is_name
from everyfloor.reading import Reading


class Entry:
    """A text that was read, as a Reading, and the formula or the test that it means."""

    def __init__(self, reading, meaning):
        self.reading = reading
        self.meaning = meaning


class Shelf:
    """The entries and the guards by their names, in their orders."""

    def __init__(self, entries, guards):
        self.entries = entries
        self.guards = guards


def kept_at(shelf, name):
    """The entry or the guard of the name, which may be any value."""
    if isinstance(name, str):
        if name in shelf.entries:
            return shelf.entries[name]
        if name in shelf.guards:
            return shelf.guards[name]
    raise UnknownName(name)


def with_entry(shelf, name, text):
    """The shelf with this text of an entry."""
    if not is_name(name) or name in shelf.guards:
        raise BadName(name)
    reading = Reading(text, "formula", True)
    check_known(reading, shelf.entries)
    readings = readings_of(shelf.entries)
    if name in needed(reading, readings):
        raise Circle(name)
    readings[name] = reading
    return with_readings(shelf, readings, {name: True})


def with_guard(shelf, name, text):
    """The shelf with this text of a guard."""
    if not is_name(name) or name in shelf.entries:
        raise BadName(name)
    reading = Reading(text, "test", True)
    check_known(reading, shelf.entries)
    formulas = {word: entry.meaning for word, entry in shelf.entries.items()}
    guards = dict(shelf.guards)
    guards[name] = _held(name, reading, formulas)
    return Shelf(shelf.entries, guards)


def without(shelf, name):
    """The shelf without the entry or the guard of the name, which may be any value."""
    kept_at(shelf, name)
    for kept in (shelf.entries, shelf.guards):
        for word, entry in kept.items():
            if name in entry.reading.names:
                raise InUse(name, word)
    entries = {word: entry for word, entry in shelf.entries.items() if word != name}
    return Shelf(entries, {word: guard for word, guard in shelf.guards.items() if word != name})


def with_name(shelf, name, new):
    """The shelf with the name new in the place of name; both may be any values."""
    kept_at(shelf, name)
    if not is_name(new) or new in shelf.entries or new in shelf.guards:
        raise BadName(new)
    return Shelf(_renamed(shelf.entries, name, new), _renamed(shelf.guards, name, new))


def with_readings(shelf, readings, changed):
    """The shelf with these texts of all entries; those with the names in changed are other ones than before."""
    moved = dict(changed)
    formulas = {}
    for name in _order(readings):
        if name in changed or _needs_one(readings[name], moved):
            moved[name] = True
            formulas[name] = _meaning(name, readings[name], formulas)
        else:
            formulas[name] = shelf.entries[name].meaning
    guards = {}
    for name, guard in shelf.guards.items():
        guards[name] = _held(name, guard.reading, formulas) if _needs_one(guard.reading, moved) else guard
    return Shelf({name: Entry(readings[name], formulas[name]) for name in readings}, guards)


def parted(shelf, other):
    """Where the entries of a shelf part from those of the same names of the other one: the least n by names."""
    found = {}
    for name, entry in shelf.entries.items():
        n = alike(entry.meaning, other.entries[name].meaning)
        if n is not None:
            found[name] = n
    return found


def readings_of(entries):
    return {name: entry.reading for name, entry in entries.items()}


def check_known(reading, known):
    """UnknownName for the first name in a text that is not one of the known ones."""
    for name in reading.names:
        if name not in known:
            raise UnknownName(name)


def needed(reading, readings):
    """The names that a text needs, by itself or by the texts of the names in it, as a dict of True."""
    found = {}
    waiting = list(reading.names)
    while len(waiting) > 0:
        name = waiting.pop()
        if name not in found:
            found[name] = True
            waiting.extend(readings[name].names)
    return found


def _needs_one(reading, names):
    return any([name in names for name in reading.names])


def _order(readings):
    """The names in the order in which their formulas can be made, without circles."""
    left = list(readings)
    come = {}
    while len(left) > 0:
        name = _first_ready(left, readings, come)
        come[name] = True
        left.remove(name)
    return list(come)


def _first_ready(names, readings, come):
    """The first one of the names in whose text there are only names that have come."""
    for name in names:
        if all([word in come for word in readings[name].names]):
            return name
    return None


def _meaning(name, reading, formulas):
    """The formula or the test that a text means."""
    try:
        return made(reading.steps, formulas)
    except EveryfloorError as why:
        raise Refused(name, why)


def _held(name, reading, formulas):
    """The guard with this text, if it holds at every n."""
    t = _meaning(name, reading, formulas)
    n = always(t)
    if n is not None:
        raise Broken(name, n)
    return Entry(reading, t)


def _renamed(entries, name, new):
    """The entries with the name new in the place of name, also in their texts."""
    found = {}
    for word, entry in entries.items():
        kept = entry
        if name in entry.reading.names:
            kept = Entry(Reading(entry.reading.with_word(name, new), entry.reading.kind, True), entry.meaning)
        found[new if word == name else word] = kept
    return found
