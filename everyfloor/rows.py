"""What formulas follow: single values below a start, then a row of pieces, one for each rest of n by a period.

Here a formula is looked at by its attributes below, start, pieces and period alone. Among values and among pieces,
None stands for undefined.
"""

from math import lcm

from everyfloor.cycles import least_period
from everyfloor.errors import TooFine, TooHigh, TooLate
from everyfloor.integers import value_at
from everyfloor.wheres import MOST_PERIOD, MOST_START

MOST_DEGREE = 8


def common_period(periods):
    """The least common multiple of the periods."""
    m = 1
    for period in periods:
        m = lcm(m, period)
    if m > MOST_PERIOD:
        raise TooFine(MOST_PERIOD)
    return m


def repeated(row, m):
    """The row for the rests by m, which is a multiple of its length."""
    return list(row) * (m // len(row))


def value_of(f, n):
    """What f gives at n: an integer or None."""
    if n < f.start:
        return f.below[n]
    piece = f.pieces[n % f.period]
    return None if piece is None else value_at(piece.row, n) // piece.under


def values_to(f, size):
    """What f gives at each n less than size."""
    return list(f.below[:size]) + [value_of(f, n) for n in range(f.start, size)]


def pairs_of(ones, others):
    """The pairs of the members of two lists; None where a member is None."""
    return [None if a is None or b is None else (a, b) for a, b in zip(ones, others)]


def pairs_of_pieces(f, g):
    """The pairs of the pieces of f and g for each rest by the least common multiple of their periods."""
    m = common_period((f.period, g.period))
    return pairs_of(repeated(f.pieces, m), repeated(g.pieces, m))


def pairs_of_values(f, g, size):
    """The pairs of what f and g give at each n less than size."""
    return pairs_of(values_to(f, size), values_to(g, size))


def later_start(f, g):
    """The least n from which both follow their pieces."""
    return max(len(f.below), len(g.below))


def check_degree(degree):
    if degree > MOST_DEGREE:
        raise TooHigh(MOST_DEGREE)


def least_form(values, pieces):
    """(below, pieces) with the least start and the least period; the values are followed by the row of pieces."""
    for piece in pieces:
        if piece is not None:
            check_degree(piece.degree)
    period = least_period(pieces)
    if period > MOST_PERIOD:
        raise TooFine(MOST_PERIOD)
    start = _least_start(values, pieces)
    if start > MOST_START:
        raise TooLate(MOST_START)
    return tuple(values[:start]), tuple(pieces[:period])


def _least_start(values, pieces):
    for n in reversed(range(len(values))):
        if not gives(pieces[n % len(pieces)], n, values[n]):
            return n + 1
    return 0


def gives(piece, n, value):
    """True if the value is what the piece gives at n, where it may be a fraction."""
    if piece is None or value is None:
        return piece is None and value is None
    return value_at(piece.row, n) == value * piece.under
