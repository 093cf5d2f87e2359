"""Formulas and tests made of their parts, by the steps that a text tells."""

from everyfloor.compare import atmost, less, same, when
from everyfloor.formulas import gcd, greatest, least, unknown, whole
from everyfloor.within import by_data, count, place, total

ONE = ("minus", "abs", "not", "**")


def made(steps, formulas):
    """What the steps make; formulas tells by names what the names mean."""
    parts = []
    for word, value in steps:
        if word in ("n", "integer", "name", "given"):
            parts.append(_without_parts(word, value, formulas))
        elif word in ONE:
            parts.append(_of_one(word, value, parts.pop()))
        else:
            second = parts.pop()
            first = parts.pop()
            parts.append(when(parts.pop(), first, second) if word == "when" else _of_two(word, first, second))
    return parts[0]


def _without_parts(word, value, formulas):
    if word == "n":
        return unknown()
    if word == "integer":
        return whole(value)
    return formulas[value] if word == "name" else by_data(value[0], value[1])


def _of_one(word, value, part):
    if word == "minus":
        return -part
    if word == "abs":
        return abs(part)
    # A power is one from 0 to 6, so that its rest by 7 is the power itself.
    return ~part if word == "not" else part ** (int(value) % 7)


def _of_two(word, first, second):
    if word == "+":
        return first + second
    if word == "-":
        return first - second
    if word == "*":
        return first * second
    if word == "//":
        return first // second
    if word == "mod":
        return first % second
    if word == "and":
        return first & second
    if word == "or":
        return first | second
    return _called(word, first, second)


def _called(word, first, second):
    if word == "<":
        return less(first, second)
    if word == "<=":
        return atmost(first, second)
    if word == "==":
        return same(first, second)
    if word == "gcd":
        return gcd(first, second)
    if word == "least":
        return least(first, second)
    if word == "greatest":
        return greatest(first, second)
    if word == "at":
        return first(second)
    if word == "total":
        return total(first, second)
    return count(first, second) if word == "count" else place(first, second)
