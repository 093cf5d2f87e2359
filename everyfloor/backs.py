"""Formulas told back by their values at the first n."""

from math import comb

from everyfloor.errors import BadMember, BadNumber, NoFormula, TooFew
from everyfloor.integers import is_int, is_int_from, row_through
from everyfloor.pieces import Piece
from everyfloor.rows import MOST_DEGREE
from everyfloor.wheres import MOST_PERIOD, MOST_START
from everyfloor.within import by_data


def told_back(values, start, period, degree):
    """The formula with the values, a start and degrees that are not greater, and a period that divides the period."""
    _check_number(start, 0, MOST_START)
    _check_number(period, 1, MOST_PERIOD)
    _check_number(degree, 0, MOST_DEGREE)
    _check_members(values)
    want = start + period * (degree + 1)
    if len(values) < want:
        raise TooFew(len(values), want)
    wrong = _first_astray(values, start, period, degree)
    if wrong is not None:
        raise NoFormula(wrong)
    pieces = []
    for r in range(period):
        first = start + (r - start) % period
        pieces.append(_piece_through(first, period, values[first:want:period]))
    return by_data(values[:start], pieces)


def simplest(values):
    """The formula told back by the least (period, degree, start) that leaves a value of each piece over, or None."""
    _check_members(values)
    for period in range(1, MOST_PERIOD + 1):
        for degree in range(MOST_DEGREE + 1):
            latest = len(values) - period * (degree + 2)
            if latest < 0:
                break
            start = _least_start(values, period, degree)
            if start <= latest and start <= MOST_START:
                return told_back(values, start, period, degree)
    return None


def _check_number(number, low, high):
    if not is_int_from(number, low) or number > high:
        raise BadNumber(number)


def _check_members(values):
    for index, value in enumerate(values):
        if value is not None and not is_int(value):
            raise BadMember(index)


def _piece_through(first, step, values):
    """The piece with the values at first, first + step, and so on; None if they are undefined."""
    if values[0] is None:
        return None
    row, under = row_through(first, values, step)
    return Piece(row, under)


def _factors(degree):
    """The factors that add up to 0 with values in a row, a step apart, of any piece with at most this degree."""
    return [comb(degree + 1, k) * (1 - 2 * (k % 2)) for k in range(degree + 2)]


def _first_astray(values, start, period, degree):
    """The least n from start on where the values from start to n do not come from pieces; None if there is none."""
    factors = _factors(degree)
    width = period * (degree + 1)
    for n in range(start + period, len(values)):
        if (values[n] is None) != (values[n - period] is None):
            return n
        if n - width >= start and not _is_straight(values, n - width, period, factors):
            return n
    return None


def _least_start(values, period, degree):
    """The least start from which on the values come from pieces."""
    factors = _factors(degree)
    width = period * (degree + 1)
    for n in reversed(range(len(values) - period)):
        if (values[n] is None) != (values[n + period] is None):
            return n + 1
        if n + width < len(values) and not _is_straight(values, n, period, factors):
            return n + 1
    return 0


def _is_straight(values, first, step, factors):
    """True if the values at first, first + step, .. are undefined, or as many of them as factors lie on one piece."""
    if values[first] is None:
        return True
    return sum([factor * values[first + k * step] for k, factor in enumerate(factors)]) == 0
