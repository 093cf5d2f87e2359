"""Pieces: polynomials of n with fractions."""

from everyfloor.errors import BadNumber, BadPlace, BadRow, BadUnder, NoDivisor, NotWhole
from everyfloor.integers import (
    common_divisor, divisible_everywhere, is_int, is_int_from, row_divided, row_gap, row_product, row_stretched,
    row_sum, row_through, row_times, sign_of, trimmed, value_at)

MOST_POWER = 6


class Piece:
    """The polynomial (r0 + r1 * n + r2 * n ** 2 + ..) / under, with the least under and without zeros at the end."""

    def __init__(self, row, under=1):
        _check_row(row)
        # What is no integer is asked without further calls here: pieces are made by the thousand.
        if not isinstance(under, int) or under is True or under < 1:
            raise BadUnder(under)
        numbers = trimmed(row)
        shared = common_divisor(under, numbers) if under > 1 else 1
        self.row = tuple(numbers if shared == 1 else [number // shared for number in numbers])
        self.under = under // shared

    @classmethod
    def through(cls, place, values):
        """The piece of the least degree that has the values at place, place + 1, and so on."""
        if not is_int(place):
            raise BadPlace(place)
        _check_row(values)
        row, under = row_through(place, values)
        return cls(row, under)

    @property
    def degree(self):
        """The number of the last member of the row; -1 if there is none."""
        return len(self.row) - 1

    @property
    def end(self):
        """The sign of the value for all great n."""
        return sign_of(self.row[-1]) if len(self.row) > 0 else 0

    @property
    def is_whole(self):
        """True if the value is an integer at every integer n."""
        return divisible_everywhere(self.row, self.under)

    def __call__(self, n):
        if not is_int(n):
            raise BadPlace(n)
        total = value_at(self.row, n)
        if total % self.under != 0:
            raise NotWhole(n)
        return total // self.under

    def __eq__(self, other):
        return isinstance(other, Piece) and self.row == other.row and self.under == other.under

    def __add__(self, other):
        if not _counts_as_piece(other):
            return NotImplemented
        added = _as_piece(other)
        if self.under == added.under:
            return Piece(row_sum(self.row, added.row), self.under)
        row = row_sum(row_times(self.row, added.under), row_times(added.row, self.under))
        return Piece(row, self.under * added.under)

    def __radd__(self, other):
        return self + other

    def __sub__(self, other):
        if not _counts_as_piece(other):
            return NotImplemented
        less = _as_piece(other)
        under = self.under if self.under == less.under else self.under * less.under
        return Piece(gap_row(self, less), under)

    def __rsub__(self, other):
        return -self + other

    def __mul__(self, other):
        if not _counts_as_piece(other):
            return NotImplemented
        factor = _as_piece(other)
        return Piece(row_product(self.row, factor.row), self.under * factor.under)

    def __rmul__(self, other):
        return self * other

    def __neg__(self):
        return Piece(row_times(self.row, -1), self.under)

    def __pow__(self, other):
        if not is_int_from(other, 0) or other > MOST_POWER:
            raise BadNumber(other)
        product = Piece((1,))
        for _ in range(other):
            product = product * self
        return product

    def divided(self, q):
        """The pair of pieces (a, b) with self == a * q + b and a lower degree of b than of q."""
        divisor = _as_piece(q)
        if len(divisor.row) == 0:
            raise NoDivisor()
        quotient, rest, factor = row_divided(self.row, divisor.row)
        under = factor * self.under
        return Piece(row_times(quotient, divisor.under), under), Piece(rest, under)

    def stretched(self, m, r):
        """The piece that has at t the value of self at m * t + r."""
        if not is_int_from(m, 1):
            raise BadNumber(m)
        if not is_int(r):
            raise BadNumber(r)
        return Piece(row_stretched(self.row, m, r), self.under)


def gap_row(p, q):
    """A row of integers that has the signs of p - q everywhere; p - q has it over the product of unlike unders."""
    if p.under == q.under:
        return trimmed(row_gap(p.row, q.row))
    return trimmed(row_gap(row_times(p.row, q.under), row_times(q.row, p.under)))


def _check_row(row):
    for index, number in enumerate(row):
        if not isinstance(number, int) or number is True or number is False:
            raise BadRow(index)


def _counts_as_piece(value):
    return isinstance(value, Piece) or is_int(value)


def _as_piece(value):
    """The piece, or the one that has the integer as its value everywhere."""
    return value if isinstance(value, Piece) else Piece((value,))
