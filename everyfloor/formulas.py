"""Formulas of n, each known for every n."""

from everyfloor.arithmetic import (
    absolute_of, chosen_of, common_divisor_of, difference_of, negative_of, power_of, product_of, quotient_of, rest_of,
    sum_of)
from everyfloor.errors import BadPlace, BadPower, BadWhole, Undefined
from everyfloor.hosts import Host, placed
from everyfloor.integers import is_int, is_int_from
from everyfloor.pieces import Piece
from everyfloor.rows import common_period, value_of
from everyfloor.spelling import integer_text
from everyfloor.wheres import Where

MOST_WHOLE = 1000
MOST_POWER = 6


class Formula:
    """A function of n from 0 on: single values below the start, then pieces by the rests of n by the period."""

    def __init__(self, told, text):
        below, pieces = told
        self.below = below
        self.pieces = pieces
        self.start = len(below)
        self.period = len(pieces)
        self.undefined = _gaps(below, pieces)
        self.text = text

    def __call__(self, n):
        if isinstance(n, Formula):
            return _at(self, n)
        if not is_int_from(n, 0):
            raise BadPlace(n)
        value = value_of(self, n)
        if value is None:
            raise Undefined(n)
        return value

    def __eq__(self, other):
        return isinstance(other, Formula) and self.below == other.below and self.pieces == other.pieces

    def __add__(self, other):
        return _sum(self, as_formula(other))

    def __radd__(self, other):
        return _sum(as_formula(other), self)

    def __sub__(self, other):
        return _difference(self, as_formula(other))

    def __rsub__(self, other):
        return _difference(as_formula(other), self)

    def __mul__(self, other):
        return _product(self, as_formula(other))

    def __rmul__(self, other):
        return _product(as_formula(other), self)

    def __floordiv__(self, other):
        return _quotient(self, as_formula(other))

    def __rfloordiv__(self, other):
        return _quotient(as_formula(other), self)

    def __mod__(self, other):
        return _rest(self, as_formula(other))

    def __rmod__(self, other):
        return _rest(as_formula(other), self)

    def __pow__(self, other):
        if not is_int_from(other, 0) or other > MOST_POWER:
            raise BadPower(other)
        return Formula(power_of(self, other), f"({self.text} ** {other})")

    def __neg__(self):
        return Formula(negative_of(self), f"minus({self.text})")

    def __abs__(self):
        return Formula(absolute_of(self), f"abs({self.text})")


def _gaps(below, pieces):
    """The set of the n at which a formula with these values and pieces is undefined."""
    early = [value is None for value in below]
    late = [piece is None for piece in pieces]
    if True in early or True in late:
        return Where(early, late)
    return Where((), (False,))


def unknown():
    """The formula n."""
    return Formula(((), (Piece((0, 1)),)), "n")


def whole(c):
    """The formula that is the integer c for every n."""
    if not is_int(c) or not -MOST_WHOLE <= c <= MOST_WHOLE:
        raise BadWhole(c)
    return Formula(((), (Piece((c,)),)), integer_text(c))


def gcd(f, g):
    """The formula of the greatest common divisor of both values."""
    first = as_formula(f)
    second = as_formula(g)
    return Formula(common_divisor_of(first, second), f"gcd({first.text}, {second.text})")


def least(f, g):
    """The formula of the smaller one of both values."""
    first = as_formula(f)
    second = as_formula(g)
    return Formula(chosen_of(first, second, -1), f"least({first.text}, {second.text})")


def greatest(f, g):
    """The formula of the greater one of both values."""
    first = as_formula(f)
    second = as_formula(g)
    return Formula(chosen_of(first, second, 1), f"greatest({first.text}, {second.text})")


def as_formula(value):
    """The formula, or the one that the integer stands for."""
    return value if isinstance(value, Formula) else whole(value)


def _sum(f, g):
    return Formula(sum_of(f, g), f"({f.text} + {g.text})")


def _difference(f, g):
    return Formula(difference_of(f, g), f"({f.text} - {g.text})")


def _product(f, g):
    return Formula(product_of(f, g), f"({f.text} * {g.text})")


def _quotient(f, g):
    return Formula(quotient_of(f, g), f"({f.text} // {g.text})")


def _rest(f, g):
    return Formula(rest_of(f, g), f"({f.text} mod {g.text})")


def _at(f, g):
    rests = g % f.period
    m = common_period((f.period, g.period, rests.period))
    return Formula(placed(Host(None, f.below, f.pieces), g, rests, m), f"at({f.text}, {g.text})")
