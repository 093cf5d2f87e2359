"""What the whole division of one row of pieces by another one follows, and Euclid's row."""

from math import gcd, lcm

from everyfloor.errors import TooFine
from everyfloor.integers import row_stretched, value_at
from everyfloor.pieces import Piece
from everyfloor.steady import behind, merged, signs_on
from everyfloor.wheres import MOST_PERIOD


def quotients(pairs):
    """(quotient, rest, divisor) of the pairs (piece, divisor) for great n, for each rest by a period.

    The period is the least fitting multiple of the number of pairs. No divisor is 0. Where a pair is None, so is
    what is returned.
    """
    m = len(pairs)
    cuts = [None if pair is None else _cut(pair[0], pair[1], m, r) for r, pair in enumerate(pairs)]
    finer = 1
    for cut in cuts:
        if cut is not None:
            finer = lcm(finer, len(cut[1]))
            _check_period(m * finer)
    return [_quotient(pairs[r % m], cuts[r % m], r // m) for r in range(m * finer)]


def start_of_quotients(low, cuts):
    """The least start from low on of what quotients returns for the period len(cuts)."""
    start = low
    for r, cut in enumerate(cuts):
        if cut is not None:
            start = behind(_last_astray(cut[1], cut[2], len(cuts), r, start), start)
    return start


def common_divisors(pairs):
    """The greatest common divisors of the pairs of pieces, up to their signs, by Euclid's row."""
    row = [_shortened(pair) for pair in pairs]
    while any([_is_open(pair) for pair in row]):
        cuts = quotients([pair if _is_open(pair) else None for pair in row])
        row = [_shortened(row[r % len(row)] if cut is None else (cut[2], cut[1])) for r, cut in enumerate(cuts)]
    return [None if pair is None else pair[0] for pair in row]


def _is_open(pair):
    return pair is not None and pair[1].degree >= 0


def _shortened(pair):
    """The end of Euclid's row for two constants, which need no finer period; any other pair as it is."""
    if pair is None or pair[0].degree > 0 or pair[1].degree > 0:
        return pair
    return Piece((gcd(value_at(pair[0].row, 0), value_at(pair[1].row, 0)),)), Piece(())


def _check_period(m):
    if m > MOST_PERIOD:
        raise TooFine(MOST_PERIOD)


def _cut(piece, divisor, m, r):
    """(a, left): piece / divisor is close to a; its whole part is a - left[t % len(left)] / a.under at m * t + r."""
    a, rest = piece.divided(divisor)
    left = _lefts(a, m, r)
    if rest.end * divisor.end < 0:
        # piece / divisor comes close to a from below, so that where a is whole the whole part is a - 1.
        left = [a.under if number == 0 else number for number in left]
    return a, left


def _lefts(a, m, r):
    """The rests of a.under * a by a.under at r, m + r, 2 * m + r, .. until they come round."""
    if a.under == 1:
        return [0]
    row = [number % a.under for number in row_stretched(a.row, m, r)]
    # The differences of the values at t + k and at t are 0 everywhere if they are at as many t as this.
    width = len(row) - 1
    left = []
    for t in range(MOST_PERIOD // m + width):
        left.append(value_at(row, t) % a.under)
        k = t + 1 - width
        if k > 0 and left[k:] == left[:width]:
            return left[:k]
    raise TooFine(MOST_PERIOD)


def _quotient(pair, cut, t):
    if cut is None:
        return None
    piece, divisor = pair
    a, left = cut
    quotient = a - Piece((left[t % len(left)],), a.under)
    return quotient, piece - quotient * divisor, divisor


def _last_astray(rest, divisor, m, r, low):
    """The greatest n from low on, with the rest r by m, where the rest is none of a division by divisor; -1 if none."""
    ones = signs_on(rest.row, m, r, low)
    others = signs_on((divisor - rest).row, m, r, low)
    for _, last, sign, gap in merged(ones, others)[::-1]:
        # The rest is from 0 on and less than the divisor, or up to 0 and greater than the divisor.
        if gap == 0 or sign == -gap:
            return m * last + r
    return -1
