"""Points [43] and [44]: formulas told back by their values."""

import unittest
from fractions import Fraction
from itertools import product
from random import Random

from everyfloor.backs import simplest, told_back
from everyfloor.errors import BadMember, BadNumber, NoFormula, TooFew
from everyfloor.formulas import Formula, gcd, unknown
from everyfloor.pieces import Piece
from everyfloor.within import by_data
from tests.checks import NO_INTEGERS
from tests.twins import Twins, given

n = unknown()


def values_of(f, many):
    return [given(f, k) for k in range(many)]


def fine(period):
    """A formula with the period, without lines in its row."""
    return by_data([], [Piece((17 * k ** 3 % 1009,)) for k in range(period)])


def through(points, x):
    """The value at x of the polynomial of the least degree through the points (Lagrange)."""
    total = Fraction(0)
    for i, (a, value) in enumerate(points):
        part = Fraction(value)
        for j, (b, _) in enumerate(points):
            part = part * Fraction(x - b, a - b) if i != j else part
        total += part
    return total


def is_told(values, start, period, degree):
    """True if the values are those of a formula of this kind, by the words of [43]."""
    for r in range(period):
        points = [(k, value) for k, value in enumerate(values) if k >= start and k % period == r]
        if None in [value for _, value in points]:
            if any(value is not None for _, value in points):
                return False
        elif any(through(points[:degree + 1], k) != value for k, value in points[degree + 1:]):
            return False
    return True


def least_triple(values):
    """The least (period, degree, start) that explains the values, by the words of [44]."""
    size = len(values)
    for period, degree, start in product(range(1, size + 1), range(9), range(size)):
        if start + period * (degree + 2) <= size and is_told(values, start, period, degree):
            return period, degree, start
    return None


def drawn_values(draw):
    """Values of a formula, some of them changed."""
    period, degree, start = draw.randrange(1, 4), draw.randrange(3), draw.randrange(4)
    rows = [None if draw.random() < 0.2 else [draw.randrange(-2, 3) for _ in range(degree + 1)] for _ in range(period)]
    values = []
    for k in range(draw.randrange(20)):
        row = rows[k % period]
        value = None if row is None else sum(c * (k // period) ** i for i, c in enumerate(row))
        values.append(draw.choice((None, 1, 2)) if k < start else value)
    if values and draw.random() < 0.3:
        values[draw.randrange(len(values))] = draw.choice((None, 0, 5))
    return values


class TestToldBack(Twins):

    def test_examples(self):
        f = told_back([5, 0, 1, 1, 2, 2, 3], 1, 2, 1)
        self.assertEqual((f.below, f.start, f.period), ((5,), 1, 2))
        self.assertEqual([f(k) for k in (0, 1, 2, 3, 10 ** 30)], [5, 0, 1, 1, 5 * 10 ** 29])
        self.assert_error(NoFormula, {"n": 4}, told_back, [0, 1, 4, 9, 17], 0, 1, 2)

    def test_formulas_are_told_back(self):
        for f in (n * n // (n + 3), n // 7 + n ** 3, 6 // (n - 3), gcd(n * n + 1, n + 1), n % 720, (n // 3) ** 2,
                  by_data([None, 10 ** 60], [None, Piece((0, 1, 1), 2), Piece((5,))]), 0 // (n - n)):
            degree = max([0] + [piece.degree for piece in f.pieces if piece is not None])
            for start, times, more in ((0, 1, 0), (5, 1, 1), (2, 2 if f.period < 300 else 1, 2)):
                period = f.period * times
                many = f.start + start + period * (degree + more + 1)
                if degree + more <= 8:
                    found = told_back(values_of(f, many), f.start + start, period, degree + more)
                    self.assertEqual(found, f)
                    self.assertEqual(found.text, by_data(f.below, f.pieces).text)
                    self.assertIs(type(found), Formula)
                    self.assertEqual(values_of(found, 3 * many), values_of(f, 3 * many))

    def test_values_of_many_figures(self):
        f = (n % 5 + 10 ** 2) ** 6 * (n // 3 + 1) ** 2
        values = values_of(f, 15 * 3 + 9)
        self.assertEqual(told_back(values, 9, 15, 2)(10 ** 100), f(10 ** 100))
        self.assertEqual(told_back([10 ** 200 + k for k in range(2)], 0, 1, 1)(10 ** 100), 10 ** 200 + 10 ** 100)

    def test_just_enough_values_and_one_less(self):
        for start, period, degree in ((0, 1, 0), (0, 1, 8), (3, 1, 2), (0, 5, 0), (4, 3, 2), (2, 720, 1)):
            want = start + period * (degree + 1)
            values = [k // period for k in range(want)]
            self.assertEqual(values_of(told_back(values, start, period, degree), want), values)
            self.assert_error(TooFew, {"have": want - 1, "want": want}, told_back, values[:-1], start, period, degree)
            self.assert_error(TooFew, {"have": 0, "want": want}, told_back, [], start, period, degree)

    def test_the_bounds_themselves(self):
        values = [7] * 9999 + [5] + [k for k in range(10000, 10000 + 720 * 9)]
        f = told_back(values, 10000, 720, 8)
        self.assertEqual((f.start, f.period, f.pieces), (10000, 1, (Piece((0, 1)),)))
        f = told_back([k % 720 for k in range(720)], 0, 720, 0)
        self.assertEqual((f.start, f.period), (0, 720))
        power = [k ** 8 for k in range(12)]
        self.assertEqual(told_back(power, 0, 1, 8).pieces, (Piece((0,) * 8 + (1,)),))
        self.assert_error(NoFormula, {"n": 8}, told_back, power, 0, 1, 7)
        self.assert_error(NoFormula, {"n": 10}, told_back, power, 2, 1, 7)

    def test_undefined_values(self):
        f = told_back([None, 3, None, 3, None, 3], 0, 2, 1)
        self.assertEqual(f.pieces, (None, Piece((3,))))
        self.assert_error(NoFormula, {"n": 2}, told_back, [None, 3, 4, 3], 0, 2, 0)
        self.assert_error(NoFormula, {"n": 3}, told_back, [None, 3, None, None], 0, 2, 0)
        self.assertEqual(told_back([None, 3, 4, 3], 1, 2, 0).below, (None,))
        self.assert_error(NoFormula, {"n": 1}, told_back, [None, 0, 0, 0], 0, 1, 2)
        self.assertEqual(told_back([None] * 4, 2, 2, 0).text, "given(; none)")

    def test_the_text_is_that_of_the_least_data(self):
        self.assertEqual(told_back([0, 1, 2, 3, 4, 5], 2, 2, 1).text, "given(; 0 1)")
        self.assertEqual(told_back([9, 1, 2, 3, 4, 5], 2, 2, 1).text, "given(9; 0 1)")

    def test_wrong_numbers(self):
        for start in (*NO_INTEGERS, -1, 10001):
            self.assert_error(BadNumber, {"number": start}, told_back, ["x"], start, 0, 9)
        for period in (*NO_INTEGERS, 0, -1, 721):
            self.assert_error(BadNumber, {"number": period}, told_back, ["x"], 0, period, 9)
        for degree in (*NO_INTEGERS, -1, 9):
            self.assert_error(BadNumber, {"number": degree}, told_back, ["x"], 10000, 720, degree)

    def test_wrong_members_come_ahead_of_too_few(self):
        for member in NO_INTEGERS:
            if member is not None:
                self.assert_error(BadMember, {"index": 2}, told_back, [None, 1, member, "x"], 0, 720, 8)
                self.assert_error(BadMember, {"index": 1}, simplest, (3, member, member))
        self.assert_error(TooFew, {"have": 3, "want": 6480}, told_back, [None, 1, 2], 0, 720, 8)
        # With too few values nothing is told of the formula that is not there.
        self.assert_error(TooFew, {"have": 3, "want": 4}, told_back, [0, 1, 5], 3, 1, 0)

    def test_drawn_values(self):
        draw = Random(43)
        found = set()
        for _ in range(1500):
            values = drawn_values(draw)
            start, period, degree = draw.randrange(5), draw.randrange(1, 5), draw.randrange(4)
            want = start + period * (degree + 1)
            if len(values) < want:
                continue
            wrong = [k for k in range(len(values)) if not is_told(values[:k + 1], start, period, degree)]
            found.add(bool(wrong))
            if wrong:
                self.assert_error(NoFormula, {"n": wrong[0]}, told_back, values, start, period, degree)
                continue
            f = told_back(tuple(values), start, period, degree)
            self.assertEqual(values_of(f, len(values)), values)
            self.assertLessEqual(f.start, start)
            self.assertEqual(period % f.period, 0)
            self.assertLessEqual(max([0] + [piece.degree for piece in f.pieces if piece is not None]), degree)
        self.assertEqual(found, {True, False})


class TestSimplest(Twins):

    def test_examples(self):
        f = simplest([7, 1, 2, 3, 4, 5])
        self.assertEqual((f.text, f.start, f.period), ("given(7; 0 1)", 1, 1))
        self.assertIsNone(simplest([0, 1]))

    def test_few_values(self):
        self.assertIsNone(simplest([]))
        self.assertIsNone(simplest([4]))
        self.assertIsNone(simplest([None]))
        self.assertEqual(simplest([4, 4]).text, "given(; 4)")
        self.assertEqual(simplest([None, None]).text, "given(; none)")
        self.assertEqual(simplest([3, 4, 4]).text, "given(3; 4)")
        self.assertIsNone(simplest([4, None]))
        self.assertEqual(simplest([0, 1, 2]).text, "given(; 0 1)")

    def test_just_enough_values_and_one_less(self):
        for f, degree in ((n ** 6 * n ** 2, 8), (n * n // (n + 3), 1), (fine(4) * n, 1), (fine(3) * n * n, 2), (fine(60), 0)):
            many = f.start + f.period * (degree + 2)
            self.assertEqual(simplest(values_of(f, many)), f)
            self.assertNotEqual(simplest(values_of(f, many - 1)), f)

    def test_the_period_comes_first_then_the_degree(self):
        # 0, 1, 0, 1 is told by the period 2, unless a late start lets the period 1 do.
        self.assertEqual(simplest([0, 1, 0, 1]).text, "given(; 0, 1)")
        self.assertEqual(simplest([0, 1, 0, 1, 1]).text, "given(0, 1, 0; 1)")
        self.assertEqual(simplest([0, 1, 0, 1, 2]).text, "given(0, 1; -2 1)")

    def test_long_rows(self):
        for f in (fine(360), n ** 3 * fine(7), n * n // (n + 9), 5 // (n - 30)):
            self.assertEqual(simplest(values_of(f, 800)), f)
        self.assertEqual(simplest(values_of(fine(720), 1440)).period, 720)
        self.assertIsNone(simplest(values_of(fine(720), 1439)))
        # The period 721 and the degree 9 are too great, however many values there are.
        self.assertIsNone(simplest([pow(11, k, 10007) for k in range(721)] * 3))
        self.assertIsNone(simplest([k ** 9 for k in range(16)]))
        # The last values of a row that rises to the end come from one line.
        self.assertEqual(simplest(values_of(n % 360, 800)).start, 720)
        late = [1] * 9999 + [0, 1, 1]
        self.assertEqual(simplest(late).start, 10000)
        self.assertIsNone(simplest([1] + late))

    def test_drawn_values(self):
        draw = Random(44)
        nothing = 0
        for _ in range(700):
            values = drawn_values(draw)
            triple = least_triple(values)
            f = simplest(values)
            if triple is None:
                nothing += 1
                self.assertIsNone(f, values)
            else:
                period, degree, start = triple
                expected = told_back(values, start, period, degree)
                self.assertEqual((f, f.text, f.period, f.start), (expected, expected.text, period, start), values)
        self.assertTrue(100 < nothing < 600)

    def test_arguments_are_not_changed(self):
        values = [5, 0, 1, 1, 2, 2, 3]
        kept = list(values)
        f, g = told_back(values, 1, 2, 1), simplest(values)
        self.assertEqual(values, kept)
        values.clear()
        self.assertEqual((f(0), g(0)), (5, 5))


if __name__ == "__main__":
    unittest.main()
