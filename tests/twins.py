"""The formulas of the package beside functions of n that are told by Python's own integers, by the document's words.

An expression is a function of a kit: given FORMULAS it makes a formula or a test of the package, given PLAIN a
function that returns what the document says for each n: an integer, True or False, or None for undefined.
"""

import math
import operator
from functools import lru_cache
from types import SimpleNamespace

from everyfloor import compare, formulas, within
from everyfloor.pieces import Piece
from everyfloor.wheres import Where
from tests.checks import NO_INTEGERS, Checks, value_of

HUNDRED = 10 ** 100 + 39
UNDEFINED = formulas.whole(0) // 0
# Ten thousand is written as a product, because integers in formulas go up to 1000.
TEN = 1000 * formulas.whole(10)
# The fields of the errors that bounds have.
FINE = {"most": 720}
LATE = {"most": 10000}
HIGH = {"most": 8}
# Values that can not stand in the place of a formula.
NO_WHOLES = NO_INTEGERS + (
    -1001, 1001, HUNDRED, Piece((1,)), Where.of([1]), compare.same(1, 1), formulas.Formula)


class Plain:
    """A function of n, by a rule that returns None where it is undefined."""

    def __init__(self, rule):
        self.rule = lru_cache(maxsize=None)(rule)

    def __call__(self, n):
        if isinstance(n, Plain):
            return Plain(lambda k: self.at(n(k)))
        return self.rule(n)

    def at(self, place):
        return None if place is None or place < 0 else self.rule(place)

    def __add__(self, other):
        return joined(operator.add, self, other)

    def __radd__(self, other):
        return joined(operator.add, other, self)

    def __sub__(self, other):
        return joined(operator.sub, self, other)

    def __rsub__(self, other):
        return joined(operator.sub, other, self)

    def __mul__(self, other):
        return joined(operator.mul, self, other)

    def __rmul__(self, other):
        return joined(operator.mul, other, self)

    def __floordiv__(self, other):
        return joined(lambda a, b: None if b == 0 else a // b, self, other)

    def __rfloordiv__(self, other):
        return as_plain(other) // self

    def __mod__(self, other):
        return joined(lambda a, b: None if b == 0 else a % b, self, other)

    def __rmod__(self, other):
        return as_plain(other) % self

    def __pow__(self, k):
        return joined(lambda a, b: a ** k, self, self)

    def __neg__(self):
        return 0 - self

    def __abs__(self):
        return joined(lambda a, b: abs(a), self, self)

    def __invert__(self):
        return joined(lambda a, b: not a, self, self)

    def __and__(self, other):
        return Plain(lambda n: other(n) if self(n) else self(n))

    def __or__(self, other):
        return Plain(lambda n: other(n) if self(n) is False else self(n))


def as_plain(value):
    return value if isinstance(value, Plain) else Plain(lambda n: value)


def joined(join, f, g):
    first, second = as_plain(f), as_plain(g)

    def rule(n):
        a, b = first(n), second(n)
        return None if a is None or b is None else join(a, b)
    return Plain(rule)


def chosen(t, f, g):
    first, second = as_plain(f), as_plain(g)
    return Plain(lambda n: None if t(n) is None else first(n) if t(n) else second(n))


def summed(f, g):
    first, second = as_plain(f), as_plain(g)

    def rule(n):
        if second(n) is None:
            return None
        values = [first(i) for i in range(second(n))]
        return None if None in values else sum(values)
    return Plain(rule)


def counted(t, g):
    return summed(joined(lambda a, b: int(a), t, t), g)


def placed(t, g, end=4000):
    """Only for places that are below the end, where t holds often enough or never behind it."""
    second = as_plain(g)

    def rule(n):
        left = second(n)
        if left is None or left < 0:
            return None
        for i in range(end):
            if t(i) is None:
                return None
            if t(i) and left == 0:
                return i
            left = left - t(i)
        return None
    return Plain(rule)


FORMULAS = SimpleNamespace(
    n=formulas.unknown(), gcd=formulas.gcd, least=formulas.least, greatest=formulas.greatest, less=compare.less,
    atmost=compare.atmost, same=compare.same, when=compare.when, total=within.total, count=within.count,
    place=within.place)
PLAIN = SimpleNamespace(
    n=Plain(lambda n: n), gcd=lambda f, g: joined(math.gcd, f, g), least=lambda f, g: joined(min, f, g),
    greatest=lambda f, g: joined(max, f, g), less=lambda f, g: joined(operator.lt, f, g),
    atmost=lambda f, g: joined(operator.le, f, g), same=lambda f, g: joined(operator.eq, f, g), when=chosen,
    total=summed, count=counted, place=placed)


def given(f, n):
    """What a formula gives at n, by its attributes and the document's words about them."""
    if n < f.start:
        return f.below[n]
    piece = f.pieces[n % f.period]
    return None if piece is None else value_of(piece.row, n) // piece.under


class Twins(Checks):
    """A test case that holds formulas and tests against plain functions."""

    def assert_twins(self, expression, many=300, great=True):
        """The formula of the expression has the plain values: at each of the first many n, and at some great n."""
        f, plain = expression(FORMULAS), expression(PLAIN)
        places = [*range(many), *range(HUNDRED, HUNDRED + 40)] if great else range(many)
        for n in places:
            expected = plain(n)
            self.assertEqual(given(f, n), expected, (f.text, n))
            if n % 7 == 0 and expected is not None:
                self.assertEqual(f(n), expected)
                self.assertIs(type(f(n)), int)
        self.assert_least(f)
        return f

    def assert_test_twins(self, expression, many=300):
        t, plain = expression(FORMULAS), expression(PLAIN)
        self.assertEqual({type(t.holds), type(t.fails)}, {Where})
        for n in (*range(many), *range(HUNDRED, HUNDRED + 40)):
            self.assertIs(True if n in t.holds else False if n in t.fails else None, plain(n), (t.text, n))
            self.assertFalse(n in t.holds and n in t.fails)
            if plain(n) is not None:
                self.assertIs(t(n), plain(n))
        return t

    def assert_least(self, f):
        """The attributes of a formula fit together, and its period and its start are the least ones."""
        self.assertEqual((type(f.below), type(f.pieces), type(f.undefined), type(f.text)), (tuple, tuple, Where, str))
        self.assertEqual((f.start, f.period), (len(f.below), len(f.pieces)))
        self.assertLessEqual({type(value) for value in f.below}, {int, type(None)})
        self.assertLessEqual({type(piece) for piece in f.pieces}, {Piece, type(None)})
        for step in range(1, f.period):
            if f.period % step == 0:
                self.assertNotEqual(f.pieces[step:], f.pieces[:-step], f.text)
        if f.start > 0:
            piece, value = f.pieces[(f.start - 1) % f.period], f.below[-1]
            follows = piece is None if value is None else (
                piece is not None and value_of(piece.row, f.start - 1) == value * piece.under)
            self.assertFalse(follows, f.text)
        for n in range(f.start + 2 * f.period):
            self.assertIs(n in f.undefined, given(f, n) is None)
        for piece in f.pieces:
            self.assertLessEqual(-1 if piece is None else piece.degree, 8)

    def assert_values(self, f, values):
        """The first values of a formula; None where it is undefined."""
        self.assertEqual([given(f, n) for n in range(len(values))], values, f.text)
        self.assert_least(f)
