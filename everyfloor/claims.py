"""What is true of formulas and tests at every n."""

from math import gcd

from everyfloor.errors import BadNumber, NoBound, NoValue, TooMany
from everyfloor.formulas import as_formula
from everyfloor.integers import is_int, is_int_from
from everyfloor.lines import lines_of, remainders_of
from everyfloor.rows import value_of
from everyfloor.wheres import Where

MOST_VALUES = 10000
MOST_DIVISOR = 100


def alike(f, g):
    """None if f and g are the same function; otherwise the least n at which they part."""
    first = as_formula(f)
    second = as_formula(g)
    if first == second:
        return None
    n = 0
    # Rows of pieces that part do so before long, also where their periods have a great common multiple: both follow
    # linear recurrences, and equal values for as long as the orders of both make them equal for ever.
    while value_of(first, n) == value_of(second, n):
        n += 1
    return n


def always(t):
    """None if t holds at every n; otherwise the least n at which it does not."""
    return (~t.holds).least


def holds_from(t):
    """The least n from which on t holds, or None."""
    return t.holds.start if t.holds.rests == (True,) else None


def least_from(f, v):
    """The least n from which on f has values of at least v, or None."""
    _check_integer(v)
    formula = as_formula(f)
    if any([piece is None or (piece - v).end < 0 for piece in formula.pieces]):
        return None
    start = 0
    for n, value in enumerate(formula.below):
        if value is None or value < v:
            start = n + 1
    for line in lines_of(formula):
        for _, last, sign in line.signs(v):
            if sign < 0 and line.place(last) >= start:
                start = line.place(last) + 1
    return start


def solved(f, v):
    """(w, others): the set of the n at which f is constantly v by its rests, and all other n at which f is v."""
    _check_integer(v)
    formula = as_formula(f)
    rests = [piece is not None and (piece - v).degree < 0 for piece in formula.pieces]
    others = [n for n, value in enumerate(formula.below) if value == v]
    for line in lines_of(formula):
        if not rests[line.offset]:
            for first, last, sign in line.signs(v):
                if sign == 0:
                    others.extend([line.place(t) for t in range(first, last + 1)])
    return Where([False] * formula.start, rests), tuple(sorted([int(n) for n in others]))


def reached(f):
    """The ascending tuple of all values of f; None if there are infinitely many."""
    formula = as_formula(f)
    lines = lines_of(formula)
    if any([line.piece.degree > 0 for line in lines]):
        return None
    found = {value: True for value in formula.below if value is not None}
    for line in lines:
        found[line.given(line.first)] = True
    if len(found) > MOST_VALUES:
        raise TooMany("values", MOST_VALUES + 1, MOST_VALUES)
    return tuple(sorted([int(value) for value in found]))


def lowest(f, bound=-10 ** 6):
    """(value, n): the least value of f, and the least n at which f has it."""
    _check_integer(bound)
    return _lowest(as_formula(f), bound)


def highest(f, bound=10 ** 6):
    """(value, n): the greatest value of f, and the least n at which f has it."""
    _check_integer(bound)
    value, n = _lowest(-as_formula(f), -bound)
    return -value, n


def common(f):
    """The greatest integer that divides every value of f; 0 if there is no greatest one."""
    formula = as_formula(f)
    divisor = 0
    for value in formula.below:
        if value is not None:
            divisor = gcd(divisor, value)
    for line in lines_of(formula):
        for value in line.first_values():
            divisor = gcd(divisor, value)
    return divisor


def remainders(f, m):
    """The ascending tuple of the rests of the values of f by m."""
    if not is_int_from(m, 1) or m > MOST_DIVISOR:
        raise BadNumber(m)
    formula = as_formula(f)
    found = {value % m: True for value in formula.below if value is not None}
    # Lines of one shape have the same rests, and when all rests are found no line can tell more.
    shapes = {line.shape(m): True for line in lines_of(formula)}
    for under, row in shapes:
        if len(found) == m:
            break
        found.update(remainders_of(under, row, m))
    return tuple([k for k in range(m) if k in found])


def _check_integer(value):
    if not is_int(value):
        raise BadNumber(value)


def _lowest(f, bound):
    lines = lines_of(f)
    if len(lines) == 0 and all([value is None for value in f.below]):
        raise NoValue()
    if any([line.piece.degree > 0 and line.piece.end < 0 for line in lines]):
        raise NoBound(_first_below(f, lines, bound))
    best = None
    for n, value in enumerate(f.below):
        if value is not None:
            best = _better(best, value, n)
    for line in lines:
        for t in line.low_turns():
            best = _better(best, line.given(t), line.place(t))
    return best


def _better(best, value, n):
    """The pair best, or (value, n) if the value is less, or the same at a less n."""
    if best is None or value < best[0] or value == best[0] and n < best[1]:
        return value, n
    return best


def _first_below(f, lines, bound):
    """The least n at which f has a value below the bound; there is one."""
    for n, value in enumerate(f.below):
        if value is not None and value < bound:
            return n
    found = None
    for line in lines:
        for first, _, sign in line.signs(bound):
            if sign < 0 and (found is None or line.place(first) < found):
                found = line.place(first)
    return found
