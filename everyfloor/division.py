"""What the whole division of one row of pieces by another one follows, and Euclid's row."""

from math import gcd, lcm

from everyfloor.errors import TooFine
from everyfloor.integers import row_stretched, row_sum, row_times, value_at
from everyfloor.pieces import Piece
from everyfloor.steady import behind, merged, signs_on
from everyfloor.wheres import MOST_PERIOD


def quotients(pairs):
    """The cuts of the pairs (piece, divisor) for great n, for each rest by a period.

    The period is the least fitting multiple of the number of pairs. No divisor is 0. Where a pair is None, so is the
    cut; otherwise it is (a, left, rest, divisor), with piece == a * divisor + rest, and the quotient is
    a - left / a.under.
    """
    m = len(pairs)
    halves = [None if pair is None else _halved(pair[0], pair[1], m, r) for r, pair in enumerate(pairs)]
    finer = 1
    for half in halves:
        if half is not None:
            finer = lcm(finer, len(half[2]))
            _check_period(m * finer)
    return [_cut(halves[r % m], pairs[r % m], r // m) for r in range(m * finer)]


def quotient_piece(cut):
    """The quotient that a cut tells; None for None."""
    if cut is None:
        return None
    a, left, _, _ = cut
    return a if left == 0 else Piece(row_sum(a.row, (-left,)), a.under)


def rest_piece(cut):
    """The rest that a cut tells; None for None."""
    if cut is None:
        return None
    a, left, rest, divisor = cut
    if left == 0:
        return rest
    added = Piece(row_times(divisor.row, left), divisor.under * a.under)
    return added if len(rest.row) == 0 else rest + added


def start_of_quotients(low, cuts):
    """The least start from low on from which the cuts of quotients tell the quotients."""
    start = low
    for r, cut in enumerate(cuts):
        # The rests by a constant are constants that are right for each n.
        if cut is not None and len(cut[3].row) > 1:
            start = behind(_last_astray(rest_piece(cut), cut[3], len(cuts), r, start), start)
    return start


def common_divisors(pairs):
    """The greatest common divisors of the pairs of pieces, up to their signs, by Euclid's row."""
    row = [_shortened(pair) for pair in pairs]
    while any([_is_open(pair) for pair in row]):
        cuts = quotients([pair if _is_open(pair) else None for pair in row])
        row = [_shortened(row[r % len(row)] if cut is None else (cut[3], rest_piece(cut)))
               for r, cut in enumerate(cuts)]
    return [None if pair is None else pair[0] for pair in row]


def _is_open(pair):
    return pair is not None and pair[1].degree >= 0


def _shortened(pair):
    """The end of Euclid's row for two constants, which need no finer period; any other pair as it is."""
    if pair is None or pair[0].degree > 0 or pair[1].degree > 0:
        return pair
    return Piece((gcd(value_at(pair[0].row, 0), value_at(pair[1].row, 0)),)), Piece(())


def _check_period(m):
    if m > MOST_PERIOD:
        raise TooFine(MOST_PERIOD)


def _halved(piece, divisor, m, r):
    """(a, rest, lefts): piece == a * divisor + rest, and at m * t + r the quotient is a - lefts[t] / a.under.

    The lefts come round.
    """
    a, rest = piece.divided(divisor)
    lefts = _lefts(a, m, r)
    if rest.end * divisor.end < 0:
        # piece / divisor comes close to a from below, so that where a is whole the whole part is a - 1.
        lefts = [a.under if left == 0 else left for left in lefts]
    return a, rest, lefts


def _cut(half, pair, t):
    if half is None:
        return None
    a, rest, lefts = half
    return a, lefts[t % len(lefts)], rest, pair[1]


def _lefts(a, m, r):
    """The rests of a.under * a by a.under at r, m + r, 2 * m + r, .. until they come round."""
    if a.under == 1:
        return [0]
    row = [number % a.under for number in row_stretched(a.row, m, r)]
    if len(row) == 2:
        period = a.under // gcd(row[1], a.under)
        _check_period(m * period)
        return [(row[0] + row[1] * t) % a.under for t in range(period)]
    # The differences of the values at t + k and at t are 0 everywhere if they are at as many t as this.
    width = len(row) - 1
    lefts = []
    for t in range(MOST_PERIOD // m + width):
        lefts.append(value_at(row, t) % a.under)
        k = t + 1 - width
        if k > 0 and lefts[k:] == lefts[:width]:
            return lefts[:k]
    raise TooFine(MOST_PERIOD)


def _last_astray(rest, divisor, m, r, low):
    """The greatest n from low on, with the rest r by m, where the rest is none of a division by divisor; -1 if none."""
    ones = signs_on(rest.row, m, r, low)
    others = signs_on((divisor - rest).row, m, r, low)
    for _, last, sign, gap in merged(ones, others)[::-1]:
        # The rest is from 0 on and less than the divisor, or up to 0 and greater than the divisor.
        if gap == 0 or sign == -gap:
            return m * last + r
    return -1
