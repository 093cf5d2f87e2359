"""What formulas follow: single values below a start, then a row of pieces, one for each rest of n by a period.

Here a formula is looked at by its attributes below, start, pieces and period alone. Among values and among pieces,
None stands for undefined.
"""

from math import lcm

from everyfloor.cycles import least_period
from everyfloor.errors import TooFine, TooHigh, TooLate
from everyfloor.integers import value_at
from everyfloor.wheres import MOST_PERIOD, MOST_START

MOST_DEGREE = 8
NEAR = 32


class Told:
    """A formula without a text and a set of the n at which it is undefined."""

    def __init__(self, below, pieces):
        self.below = below
        self.pieces = pieces
        self.start = len(below)
        self.period = len(pieces)


def common_period(periods):
    """The least common multiple of the periods."""
    m = 1
    for period in periods:
        m = lcm(m, period)
    if m > MOST_PERIOD:
        raise TooFine(MOST_PERIOD)
    return m


def repeated(row, m):
    """The row for the rests by m, which is a multiple of its length."""
    return list(row) * (m // len(row))


def value_of(f, n):
    """What f gives at n: an integer or None."""
    if n < f.start:
        return f.below[n]
    piece = f.pieces[n % f.period]
    return None if piece is None else value_at(piece.row, n) // piece.under


def values_to(f, size):
    """What f gives at each n less than size."""
    late = size - f.start
    if late <= 0:
        return list(f.below[:size])
    columns = min(f.period, int(late))
    # Each column has the values at the n with one rest; the last ones may be too many.
    height = (late + columns - 1) // columns
    found = [values_of_piece(f.pieces[n % f.period], n, columns, height) for n in range(f.start, f.start + columns)]
    later = found[0] if columns == 1 else [value for row in zip(*found) for value in row]
    return list(f.below) + later[:late]


def values_of_piece(piece, first, step, many):
    """As many values of a piece, at first, first + step, and so on, where they are integers; None for None."""
    if piece is None:
        return [None] * many
    numbers = numbers_of_piece(piece, first, step, many)
    return numbers if piece.under == 1 else [number // piece.under for number in numbers]


def numbers_of_piece(piece, first, step, many):
    """As many values of the row of a piece, at first, first + step, and so on."""
    row = piece.row
    if len(row) < 2:
        return [value_at(row, 0)] * many
    if len(row) == 2:
        begin = value_at(row, first)
        rise = row[1] * step
        return list(range(begin, begin + rise * many, rise))
    places = list(range(first, first + step * many, step))
    numbers = [row[-1]] * many
    for added in row[-2::-1]:
        numbers = [number * n + added for number, n in zip(numbers, places)]
    return numbers


def pairs_of(ones, others):
    """The pairs of the members of two lists; None where a member is None."""
    return [None if a is None or b is None else (a, b) for a, b in zip(ones, others)]


def differences(ones, others):
    """The members of one list less those of the other; None where a member is None."""
    return [None if a is None or b is None else a - b for a, b in zip(ones, others)]


def pieces_of_both(f, g):
    """The pieces of f, and those of g, for each rest by the least common multiple of their periods."""
    m = common_period((f.period, g.period))
    return repeated(f.pieces, m), repeated(g.pieces, m)


def values_of_both(f, g, size):
    """What f gives at each n less than size, and what g gives."""
    return values_to(f, size), values_to(g, size)


def pairs_of_pieces(f, g):
    ones, others = pieces_of_both(f, g)
    return pairs_of(ones, others)


def pairs_of_values(f, g, size):
    ones, others = values_of_both(f, g, size)
    return pairs_of(ones, others)


def later_start(f, g):
    """The least n from which both follow their pieces."""
    return max(len(f.below), len(g.below))


def check_degree(degree):
    if degree > MOST_DEGREE:
        raise TooHigh(MOST_DEGREE)


def least_form(values, pieces):
    """(below, pieces) with the least start and the least period; the values are followed by the row of pieces."""
    for piece in pieces:
        if piece is not None:
            check_degree(piece.degree)
    period = least_period(pieces)
    if period > MOST_PERIOD:
        raise TooFine(MOST_PERIOD)
    start = _least_start(values, pieces)
    if start > MOST_START:
        raise TooLate(MOST_START)
    return tuple(values[:start]), tuple(pieces[:period])


def _least_start(values, pieces):
    m = len(pieces)
    near = max(0, len(values) - NEAR)
    # Most starts are not far from the end; where this one is, the values are looked at rest by rest.
    for n in reversed(range(near, len(values))):
        if not gives(pieces[n % m], n, values[n]):
            return n + 1
    starts = [_start_of_column(values[r:near:m], pieces[r], r, m) for r in range(min(m, int(near)))]
    return max([int(start) for start in starts], default=0)


def _start_of_column(values, piece, r, m):
    """The least n from which on the values at r, r + m, r + 2 * m, .. are those of the piece, which may be None."""
    places = range(r, r + m * len(values), m)
    if piece is None:
        astray = [n for n, value in zip(places, values) if value is not None]
    else:
        numbers = numbers_of_piece(piece, r, m, len(values))
        astray = [n for n, value, number in zip(places, values, numbers)
                  if value is None or value * piece.under != number]
    return astray[-1] + 1 if len(astray) > 0 else 0


def gives(piece, n, value):
    """True if the value is what the piece gives at n, where it may be a fraction."""
    if piece is None or value is None:
        return piece is None and value is None
    return value_at(piece.row, n) == value * piece.under
