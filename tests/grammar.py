"""The grammar of the texts ([50], [51], [52]), followed one character after the other, along all ways at once.

A way is a stack of what must come: a character of a literal, the name of a rule, or a token that was read in part.
"""

import re

INTEGERS = {str(value) for value in range(-1000, 1001)}
RESERVED = set("n minus abs gcd least greatest at when total count place given not and or none always mod".split())
LETTERS = "abcdefghijklmnopqrstuvwxyz"
BEGINNINGS = {text[:size] for text in INTEGERS for size in range(1, len(text) + 1)}


def is_name(text):
    return bool(re.fullmatch("[a-z]{1,12}", text)) and text not in RESERVED


# Stands at the end of each way along which names may stand for formulas; no text is left by it.
WITH_NAMES = "'"

# For each token: whether a text is one, and whether it is the beginning of one.
TOKENS = {
    "integer": (lambda text: text in INTEGERS, lambda text: text in BEGINNINGS),
    "power": (lambda text: text in tuple("0123456"), lambda text: text in tuple("0123456")),
    "any": (lambda text: re.fullmatch("0|-?[1-9][0-9]*", text), lambda text: re.fullmatch("0|-|-?[1-9][0-9]*", text)),
    "divisor": (lambda text: re.fullmatch("[2-9][0-9]*|1[0-9]+", text), lambda text: re.fullmatch("[1-9][0-9]*", text)),
    "name": (is_name, lambda text: re.fullmatch("[a-z]{1,12}", text)),
}
# Each rule is a list of rows; a row has literals in quotes of their own, rules and tokens.
RULES = {
    "F": [["'n"], ["integer"], ["'(", "F", "F2"], ["'given(", "BELOW", "'; ", "PIECES", "')"]]
    + [[f"'{word}(", "F", "')"] for word in ("minus", "abs")]
    + [[f"'{word}(", "F", "', ", "F", "')"] for word in ("gcd", "least", "greatest", "at", "total")]
    + [[f"'{word}(", "T", "', ", "F", "')"] for word in ("count", "place")]
    + [["'when(", "T", "', ", "F", "', ", "F", "')"]],
    "F2": [["' ** ", "power", "')"]] + [[f"' {sign} ", "F", "')"] for sign in ("+", "-", "*", "//", "mod")],
    "T": [["'not ", "T"], ["'(", "F", "T2"], ["'(", "T", "T3"]],
    "T2": [[f"' {sign} ", "F", "')"] for sign in ("<", "<=", "==")],
    "T3": [["' and ", "T", "')"], ["' or ", "T", "')"]],
    "BELOW": [[], ["MEMBER", "BELOW2"]],
    "BELOW2": [[], ["', ", "MEMBER", "BELOW2"]],
    "MEMBER": [["'none"], ["any"]],
    "PIECES": [["PIECE", "PIECES2"]],
    "PIECES2": [[], ["', ", "PIECE", "PIECES2"]],
    "PIECE": [["'none"], ["NUMBER", "PIECE2"]],
    "PIECE2": [[], ["' ", "NUMBER", "PIECE2"]],
    "NUMBER": [["any"], ["any", "'/", "divisor"]],
}


def steps(way, letter):
    """The ways that are left of a way behind the letter."""
    if not way:
        return
    first, rest = way[0], way[1:]
    if first.startswith("'"):
        if first[1:2] == letter:
            yield (("'" + first[2:],) + rest) if len(first) > 2 else rest
    elif first.split(":")[0] in TOKENS:
        kind, _, read = first.partition(":")
        is_full, is_begun = TOKENS[kind]
        if is_begun(read + letter):
            yield (f"{kind}:{read}{letter}",) + rest
        if read and is_full(read):
            yield from steps(rest, letter)
    else:
        for row in RULES[first]:
            yield from steps(tuple(row) + rest, letter)
        if first == "F" and WITH_NAMES in way:
            yield from steps(("name",) + rest, letter)


def may_end(way):
    """True if a way may be at its end: all that is left may be empty."""
    for part in way:
        if part == WITH_NAMES:
            continue
        kind, _, read = part.partition(":")
        if kind in TOKENS and read and TOKENS[kind][0](read):
            continue
        if part in RULES and [] in RULES[part]:
            continue
        return False
    return True


def wrong_at(text, kind, with_names=False):
    """None if the text is one of the kind "F" or "T"; otherwise the place that [51] tells."""
    ways = {(kind, WITH_NAMES) if with_names else (kind,)}
    for at, letter in enumerate(text):
        ways = {left for way in ways for left in steps(way, letter)}
        if not ways:
            return at
    return None if any(may_end(way) for way in ways) else len(text)


def drawn(draw, kind, deep=3, with_names=False):
    """A text of the kind, by a random.Random."""
    if kind in TOKENS:
        return drawn_token(draw, kind)
    if kind == "F" and with_names and draw.random() < 0.3:
        return drawn_token(draw, "name")
    rows = RULES[kind]
    if deep <= 0 and kind == "F":
        rows = rows[:2]
    elif deep <= 0:
        rows = [row for row in rows if kind not in row and (kind != "T" or "T" not in row)] or rows
    below = deep - 1 if kind in ("F", "T") or kind[-1] in "2" and kind[0] in "BP" else deep
    return "".join(part[1:] if part.startswith("'") else drawn(draw, part, below, with_names)
                   for part in draw.choice(rows))


def drawn_token(draw, kind):
    if kind == "integer":
        return str(draw.choice((0, 1, 7, -1, 10, 99, -100, 999, 1000, -1000, draw.randrange(-1000, 1001))))
    if kind == "power":
        return str(draw.randrange(7))
    if kind == "any":
        return str(draw.choice((0, 5, -5, 10 ** 30, draw.randrange(-2000, 2000))))
    if kind == "divisor":
        return str(draw.choice((2, 3, 10, 11, 10 ** 20)))
    word = "".join(draw.choice(LETTERS) for _ in range(draw.choice((1, 2, 3, 12))))
    return word if is_name(word) else "xy"


def changed(draw, text):
    """The text with one change."""
    at = draw.randrange(len(text) + 1)
    signs = "n()0123456789-+*/<= ,;modandornotgvewhxz"
    kind = draw.randrange(5)
    if kind == 0:
        return text[:at]
    if kind == 1:
        return text[:at] + text[at + 1:]
    if kind == 2:
        return text[:at] + draw.choice(signs) + text[at:]
    if kind == 3:
        return text[:at] + draw.choice(signs) + text[at + 1:]
    end = draw.randrange(len(text) + 1)
    return text[:at] + text[end:]
