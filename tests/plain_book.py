"""A book told by the words of [52] to [58] alone: texts, in which the texts of names are put in their places."""

import re

from everyfloor.claims import alike, always
from everyfloor.errors import (
    BadLine, BadName, BadText, Broken, Circle, EveryfloorError, InUse, NoSteps, Refused, UnknownName)
from everyfloor.texts import read_formula, read_test
from tests.grammar import RESERVED, is_name, wrong_at


def names_of(text):
    return [word for word in re.findall("[a-z]+", text) if word not in RESERVED]


def is_free_name(name):
    return isinstance(name, str) and is_name(name)


def full(text, texts):
    """The text with the texts of all names in their places."""
    return re.sub("[a-z]+", lambda word: word[0] if word[0] in RESERVED else full(texts[word[0]], texts), text)


def renamed(text, name, new):
    return re.sub("[a-z]+", lambda word: new if word[0] == name else word[0], text)


def closure(text, texts):
    found, waiting = set(), names_of(text)
    while waiting:
        name = waiting.pop()
        if name not in found:
            found.add(name)
            waiting += names_of(texts[name])
    return found


def order(texts):
    come = []
    while len(come) < len(texts):
        come.append(next(name for name in texts if name not in come and set(names_of(texts[name])) <= set(come)))
    return come


def check_text(text, kind, known):
    at = wrong_at(text, kind, True)
    if at is not None:
        raise BadText(at)
    for name in names_of(text):
        if name not in known:
            raise UnknownName(name)


def check_entries(texts):
    for name in order(texts):
        try:
            read_formula(full(texts[name], texts))
        except EveryfloorError as why:
            raise Refused(name, why)


def check_guard(name, text, texts):
    try:
        n = always(read_test(full(text, texts)))
    except EveryfloorError as why:
        raise Refused(name, why)
    if n is not None:
        raise Broken(name, n)


class PlainBook:

    def __init__(self):
        self.entries, self.tests = {}, {}
        self.behind = []
        self.floor = 0

    def step(self, entries, tests):
        self.behind = [*self.behind, (self.entries, self.tests)]
        self.entries, self.tests = entries, tests

    def changed(self, name, text):
        if not is_free_name(name) or name in self.tests:
            raise BadName(name)
        check_text(text, "F", self.entries)
        entries = {**self.entries, name: text}
        if name in closure(text, entries):
            raise Circle(name)
        check_entries(entries)
        for guard in self.tests:
            check_guard(guard, self.tests[guard], entries)
        return entries

    def put(self, name, text):
        self.step(self.changed(name, text), self.tests)

    def guard(self, name, text):
        if not is_free_name(name) or name in self.entries:
            raise BadName(name)
        check_text(text, "T", self.entries)
        check_guard(name, text, self.entries)
        self.step(self.entries, {**self.tests, name: text})

    def texts(self):
        return {**self.entries, **self.tests}

    def check_name(self, name):
        if not isinstance(name, str) or name not in self.texts():
            raise UnknownName(name)

    def drop(self, name):
        self.check_name(name)
        for by, text in self.texts().items():
            if name in names_of(text):
                raise InUse(name, by)
        self.step({key: self.entries[key] for key in self.entries if key != name},
                  {key: self.tests[key] for key in self.tests if key != name})

    def rename(self, name, new):
        self.check_name(name)
        if not is_free_name(new) or new in self.texts():
            raise BadName(new)
        self.step(*[{new if key == name else key: renamed(texts[key], name, new) for key in texts}
                    for texts in (self.entries, self.tests)])

    def undo(self):
        if len(self.behind) <= self.floor:
            raise NoSteps()
        self.entries, self.tests = self.behind[-1]
        self.behind = self.behind[:-1]

    def attempt(self, action):
        kept, floor = (self.entries, self.tests, self.behind), self.floor
        self.floor = len(self.behind)
        try:
            answer = action(self)
        except BaseException:
            self.entries, self.tests, self.behind = kept
            raise
        finally:
            self.floor = floor
        if len(self.behind) > len(kept[2]):
            self.behind = [*kept[2], kept[:2]]
        return answer

    def moved(self, name, text):
        entries = self.changed(name, text)
        found = {}
        for key in self.entries:
            n = alike(read_formula(full(self.entries[key], self.entries)), read_formula(full(entries[key], entries)))
            if n is not None:
                found[key] = n
        return found

    def needs(self, name):
        self.check_name(name)
        return tuple(sorted(closure(self.texts()[name], self.entries)))

    def __len__(self):
        return len(self.behind)

    @property
    def page(self):
        return page_of(self.entries, self.tests)


def page_of(entries, tests):
    return "\n".join([f"{name} = {text}" for name, text in entries.items()]
                     + [f"always {name}: {text}" for name, text in tests.items()])


def read_page(page):
    """The plain book of a page."""
    lines = page.split("\n") if page else []
    many = next((k for k, line in enumerate(lines) if line.startswith("always ")), len(lines))
    book = PlainBook()
    texts = {}
    for number, line in enumerate(lines[:many], start=1):
        name, mark, text = line.partition(" = ")
        at = 0 if not mark else wrong_at(text, "F", True)
        if mark and (not is_free_name(name) or name in texts):
            raise BadLine(number, BadName(name))
        if at is not None:
            raise BadLine(number, BadText(at))
        texts[name] = text
    for number, name in enumerate(texts, start=1):
        for word in names_of(texts[name]):
            if word not in texts:
                raise BadLine(number, UnknownName(word))
    for number, name in enumerate(texts, start=1):
        if name in closure(texts[name], texts):
            raise BadLine(number, Circle(name))
    try:
        check_entries(texts)
    except Refused as why:
        raise BadLine(list(texts).index(why.name) + 1, why)
    if texts:
        book.step(texts, {})
    for number, line in enumerate(lines[many:], start=many + 1):
        name, mark, text = line[7:].partition(": ")
        if not line.startswith("always ") or not mark:
            raise BadLine(number, BadText(0))
        try:
            book.guard(name, text)
        except EveryfloorError as why:
            raise BadLine(number, why)
    return book
