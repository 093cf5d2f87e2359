"""Formulas within formulas: sums, counts, places; and formulas told by their data."""

from everyfloor.compare import periods_of
from everyfloor.errors import BadPiece, NoPieces
from everyfloor.formulas import Formula, as_formula
from everyfloor.hosts import Host, placed
from everyfloor.integers import divisible_everywhere, row_stretched, row_through
from everyfloor.pieces import Piece
from everyfloor.rows import common_period, least_form, values_to
from everyfloor.spelling import given_text
from everyfloor.wheres import truths_to


def total(f, g):
    """The formula of the sums of f at all numbers from 0 to g - 1."""
    first = as_formula(f)
    second = as_formula(g)
    rests = second % first.period
    m = common_period((first.period, second.period, rests.period))
    return Formula(placed(_sums(first), second, rests, m), f"total({first.text}, {second.text})")


def count(t, g):
    """The formula of how many of the numbers from 0 to g - 1 there are at which t holds."""
    second = as_formula(g)
    rests = second % t.holds.period
    m = common_period(periods_of(t) + [second.period, rests.period])
    return Formula(placed(_counts(t), second, rests, m), f"count({t.text}, {second.text})")


def place(t, g):
    """The formula of the number at which t holds and below which t holds at g numbers."""
    second = as_formula(g)
    host = _members(t)
    rests = second % len(host.pieces)
    m = common_period((second.period, rests.period))
    return Formula(placed(host, second, rests, m), f"place({t.text}, {second.text})")


def by_data(below, pieces):
    """The formula with the values below at the first n and with the pieces from there on."""
    if len(pieces) == 0:
        raise NoPieces()
    m = len(pieces)
    for r, piece in enumerate(pieces):
        if piece is not None and not divisible_everywhere(row_stretched(piece.row, m, r), piece.under):
            raise BadPiece(r)
    told = least_form(list(below), list(pieces))
    return Formula(told, given_text(told[0], told[1]))


def _sums(f):
    """The sum of f at all numbers below k, for every k."""
    gap = f.undefined.least
    if gap is not None:
        return Host(Piece(()), _sums_to(f, gap), [None] * f.period)
    # The sums have at most one degree more than the pieces: as many values of them tell each piece.
    many = max([len(piece.row) for piece in f.pieces]) + 1
    sums = _sums_to(f, f.start + f.period * (many + 1))
    pieces = []
    for r in range(f.period):
        first = f.start + (r - f.start) % f.period
        row, under = row_through(first, sums[first:first + f.period * many:f.period], f.period)
        pieces.append(Piece(row, under))
    return Host(Piece(()), sums[:f.start], pieces)


def _sums_to(f, last):
    """The sums of f at all numbers below k, for k from 0 to last."""
    sums = [0]
    total_so_far = 0
    for value in values_to(f, last):
        total_so_far = total_so_far + value
        sums.append(total_so_far)
    return sums


def _counts(t):
    """How many numbers below k there are at which t holds, for every k."""
    gap = _first_gap(t)
    start = t.holds.start
    period = t.holds.period
    if gap is not None:
        return Host(Piece(()), _counts_to(t.holds, gap), [None] * period)
    many = t.holds.rests.count(True)
    counts = _counts_to(t.holds, start + period)
    pieces = []
    for r in range(period):
        first = start + (r - start) % period
        pieces.append(Piece((counts[first] * period - many * first, many), period))
    return Host(Piece(()), counts[:start], pieces)


def _counts_to(where, last):
    """How many members below k there are, for k from 0 to last."""
    counts = [0]
    many = 0
    for truth in truths_to(where, last):
        if truth:
            many += 1
        counts.append(many)
    return counts


def _members(t):
    """The number at which t holds and below which it holds at k numbers, for every k."""
    gap = _first_gap(t)
    many = t.holds.rests.count(True)
    end = t.holds.start if gap is None else gap
    below = [n for n, truth in enumerate(truths_to(t.holds, end)) if truth]
    if gap is not None or many == 0:
        return Host(None, below, [None] * max(1, many))
    pieces = []
    for r in range(many):
        first = len(below) + (r - len(below)) % many
        pieces.append(Piece((t.holds.member(first) * many - t.holds.period * first, t.holds.period), many))
    return Host(None, below, pieces)


def _first_gap(t):
    """The least n at which t is undefined, or None."""
    return (~(t.holds | t.fails)).least
