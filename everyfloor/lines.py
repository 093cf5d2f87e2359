"""The pieces of a formula one by one: each one is a line of t from a first t on, with n = period * t + offset."""

from everyfloor.cycles import primes_of
from everyfloor.integers import row_of_steps, value_at
from everyfloor.pieces import Piece
from everyfloor.signs import signs_of_row
from everyfloor.steady import first_on


class Line:
    """What a formula follows at the n with one rest: an integer at every t; n = period * t + offset from first on."""

    def __init__(self, piece, period, offset, start):
        self.piece = piece.stretched(period, offset)
        self.period = period
        self.offset = offset
        self.first = first_on(period, offset, start)

    def place(self, t):
        """The n of t."""
        return self.period * t + self.offset

    def given(self, t):
        return value_at(self.piece.row, t) // self.piece.under

    def signs(self, v):
        """The (first, last, sign) of the values less v, by t from the first one on."""
        return signs_of_row((self.piece - v).row, self.first)

    def low_turns(self):
        """The t at which the values may be the least ones, if they do not fall without end."""
        turns = [self.first]
        falls = False
        for first, _, sign in signs_of_row(row_of_steps(self.piece.row), self.first):
            if falls:
                turns.append(first)
            falls = sign < 0
        return turns

    def first_values(self):
        """As many values as tell the greatest common divisor of all: the first ones, one more than the degree."""
        return [self.given(self.first + k) for k in range(len(self.piece.row))]

    def shape(self, m):
        """Numbers that are the same for lines with the same rests of values by m."""
        return self.piece.under, tuple([number % (m * self.piece.under) for number in self.piece.row])


def lines_of(f):
    """The lines of all pieces of a formula but those that are None."""
    lines = []
    for r, piece in enumerate(f.pieces):
        if piece is not None:
            lines.append(Line(piece, f.period, r, f.start))
    return lines


def remainders_of(under, row, m):
    """The rests by m of the integers row / under at all t, as a dict of True."""
    parts = [(power, _remainders_by(under, row, power, prime)) for prime, power in _prime_powers(m)]
    if len(parts) == 1:
        return parts[0][1]
    # The values come round by powers of the primes, so that the rests by these go together in every way.
    return {k: True for k in range(m) if all([k % power in found for power, found in parts])}


def _remainders_by(under, row, power, prime):
    many = power
    while many // power * prime < len(row):
        many = many * prime
    modulus = power * under
    small = [number % modulus for number in row]
    return {value_at(small, t) % modulus // under: True for t in range(many)}


def _prime_powers(m):
    """(prime, power) for each prime that divides m, with the greatest power that does."""
    found = []
    for prime in primes_of(m):
        power = prime
        while m % (power * prime) == 0:
            power = power * prime
        found.append((prime, power))
    return found
