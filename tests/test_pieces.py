"""Points [4] to [9]: pieces."""

import itertools
import unittest
from fractions import Fraction

from everyfloor.errors import BadNumber, BadPlace, BadRow, BadUnder, NoDivisor, NotWhole
from everyfloor.pieces import Piece
from tests.checks import NO_INTEGERS, Checks, value_of

HUNDRED = 10 ** 100 + 39
SAMPLES = [Piece(row, under) for row, under in (
    ((), 1), ((1,), 1), ((-3,), 2), ((2, 4), 6), ((0, 1, 1), 2), ((7, 0, 1), 1), ((3, 1), 1), ((1, 2), 1),
    ((0, 0, -5), 3), ((4, -2, 0, 6), 8), ((HUNDRED, -HUNDRED, 1), 7))]


def exact(p, n):
    """The value of a piece at n, whole or not."""
    return Fraction(value_of(p.row, n), p.under)


class TestMaking(Checks):

    def form(self, row, under=1):
        p = Piece(row, under)
        self.assertIs(type(p.row), tuple)
        self.assertIs(type(p.under), int)
        return p.row, p.under

    def test_the_least_form(self):
        self.assertEqual(self.form((2, 4), 6), ((1, 2), 3))
        self.assertEqual(self.form([0, 1, 1], 2), ((0, 1, 1), 2))
        self.assertEqual(self.form([1, 2]), ((1, 2), 1))
        self.assertEqual(self.form([-4, 6], 2), ((-2, 3), 1))
        self.assertEqual(self.form([-4, 6], 8), ((-2, 3), 4))
        self.assertEqual(self.form([0, 5], 10), ((0, 1), 2))
        self.assertEqual(self.form([4, 6]), ((4, 6), 1))

    def test_zeros_at_the_end_go(self):
        self.assertEqual(self.form((1, 2, 0, 0)), ((1, 2), 1))
        self.assertEqual(self.form((0, 0, 3, 0)), ((0, 0, 3), 1))
        self.assertEqual(self.form((3, 0), 6), ((1,), 2))

    def test_the_piece_that_is_0(self):
        for row in ((), [], [0], (0, 0, 0)):
            self.assertEqual(self.form(row, 12), ((), 1))
            self.assertEqual(Piece(row, 7)(5), 0)

    def test_numbers_of_any_size(self):
        self.assertEqual(self.form([HUNDRED * 6, HUNDRED * 9], HUNDRED * 12), ((2, 3), 4))
        self.assertEqual(self.form([HUNDRED], HUNDRED + 1), ((HUNDRED,), HUNDRED + 1))

    def test_wrong_members_of_the_row(self):
        for wrong in NO_INTEGERS:
            self.assert_error(BadRow, {"index": 0}, Piece, [wrong])
            self.assert_error(BadRow, {"index": 2}, Piece, (1, 2, wrong, wrong), 3)

    def test_wrong_under(self):
        for wrong in NO_INTEGERS + (0, -1, -HUNDRED):
            self.assert_error(BadUnder, {"under": wrong}, Piece, (1, 2), wrong)
            self.assert_error(BadUnder, {"under": wrong}, Piece, [], wrong)

    def test_the_row_is_looked_at_first(self):
        self.assert_error(BadRow, {"index": 1}, Piece, (1, None), 0)

    def test_equality_is_by_the_values(self):
        self.assertTrue(Piece((2, 4), 6) == Piece((1, 2, 0), 3))
        self.assertFalse(Piece((2, 4), 6) != Piece((1, 2, 0), 3))
        self.assertTrue(Piece(()) == Piece((0,), 5))
        self.assertFalse(Piece((1, 2), 3) == Piece((1, 2)))
        self.assertFalse(Piece((1, 2)) == Piece((1,)))
        for one, other in itertools.combinations(SAMPLES, 2):
            self.assertTrue(one != other)

    def test_no_other_kind_is_equal(self):
        for other in (5, (5,), "5", None, object()):
            self.assertFalse(Piece((5,)) == other)
            self.assertTrue(Piece((5,)) != other)
        self.assertFalse(5 == Piece((5,)))


class TestValues(Checks):

    def test_values_by_the_words(self):
        for p in SAMPLES:
            for n in range(-12, 13):
                value = exact(p, n)
                if value.denominator == 1:
                    self.assertEqual(p(n), value)
                    self.assertIs(type(p(n)), int)
                else:
                    self.assert_error(NotWhole, {"n": n}, p, n)

    def test_values_below_0_are_divided_as_python_does(self):
        self.assertEqual(Piece((1, 2), 3)(-5), -3)
        self.assertEqual(Piece((1, 2), 3)(1), 1)
        self.assertEqual(Piece((0, 1, 1), 2)(-1), 0)
        self.assertEqual(Piece((0, 1, 1), 2)(-4), 6)

    def test_places_of_any_size(self):
        self.assertEqual(Piece((-3, 1))(10 ** 30), 10 ** 30 - 3)
        self.assertEqual(Piece((0, 1, 1), 2)(-HUNDRED), HUNDRED * (HUNDRED - 1) // 2)

    def test_wrong_places(self):
        for wrong in NO_INTEGERS + (Piece((1,)),):
            self.assert_error(BadPlace, {"n": wrong}, Piece((1, 2), 3), wrong)

    def test_the_empty_row_is_0(self):
        self.assertEqual([Piece(())(n) for n in (-HUNDRED, -1, 0, 1, HUNDRED)], [0] * 5)

    def test_degree(self):
        self.assertEqual([Piece(row).degree for row in ((), (0,), (5,), (0, 1), (1, 0, 2), (1, 0))],
                         [-1, -1, 0, 1, 2, 0])

    def test_end(self):
        self.assertEqual([Piece(row, 9).end for row in ((), (5,), (-5,), (5, -1), (-HUNDRED, 1), (0, 0, -1), (0, 0))],
                         [0, 1, -1, -1, 1, -1, 0])

    def test_is_whole(self):
        for row, under, whole in (
                ((), 4, True), ((3,), 1, True), ((3,), 2, False), ((0, 1, 1), 2, True), ((1, 2), 3, False),
                ((0, -1, 0, 1), 6, True), ((0, -1, 0, 1), 12, False), ((0, 1), 2, False), ((0, 0, 1), 2, False),
                ((0, -1, 0, 0, 0, 1), 30, True), ((0, -1, 0, 0, 0, 1), 60, False), ((HUNDRED, 1), 1, True)):
            self.assertIs(Piece(row, under).is_whole, whole)

    def test_is_whole_as_the_values_are(self):
        for row in itertools.product(range(-2, 3), repeat=3):
            for under in range(1, 7):
                p = Piece(row, under)
                self.assertIs(p.is_whole, all(exact(p, n).denominator == 1 for n in range(-60, 60)))

    def test_degree_end_and_is_whole_are_properties(self):
        for name in ("degree", "end", "is_whole"):
            self.assertIsInstance(vars(Piece)[name], property)


class TestArithmetic(Checks):

    def test_sums_differences_and_products(self):
        for p, q in itertools.product(SAMPLES, repeat=2):
            for n in (-HUNDRED, -3, -1, 0, 1, 2, 5, HUNDRED):
                self.assertEqual(exact(p + q, n), exact(p, n) + exact(q, n))
                self.assertEqual(exact(p - q, n), exact(p, n) - exact(q, n))
                self.assertEqual(exact(p * q, n), exact(p, n) * exact(q, n))
                self.assertEqual(exact(-p, n), -exact(p, n))

    def test_integers_on_either_side(self):
        p = Piece((1, 2), 3)
        self.assertEqual(p + 2, Piece((7, 2), 3))
        self.assertEqual(2 + p, Piece((7, 2), 3))
        self.assertEqual(p - 2, Piece((-5, 2), 3))
        self.assertEqual(2 - p, Piece((5, -2), 3))
        self.assertEqual(p * -6, Piece((-2, -4)))
        self.assertEqual(-6 * p, Piece((-2, -4)))
        self.assertEqual(HUNDRED * p - HUNDRED, Piece((-2 * HUNDRED, 2 * HUNDRED), 3))

    def test_what_comes_to_0(self):
        for p in SAMPLES:
            for nothing in (p - p, p + -p, p * 0, 0 * p, p * Piece(())):
                self.assertEqual((nothing.row, nothing.under), ((), 1))

    def test_zeros_and_factors_go_behind_each_step(self):
        self.assertEqual((Piece((1, 1)) - Piece((3, 1))).row, (-2,))
        self.assertEqual((Piece((1, 1), 2) + Piece((1, 1), 2)).under, 1)
        self.assertEqual((Piece((1,), 6) * Piece((0, 3))).under, 2)

    def test_values_that_are_neither_pieces_nor_integers(self):
        for wrong in ("1", None, 1.0, [1]):
            with self.assertRaises(TypeError):
                Piece((1,)) + wrong
            with self.assertRaises(TypeError):
                wrong - Piece((1,))

    def test_powers(self):
        for p in SAMPLES:
            product = Piece((1,))
            for k in range(7):
                self.assertEqual(p ** k, product)
                product = product * p
        self.assertEqual(Piece(()) ** 0, Piece((1,)))
        self.assertEqual(Piece((0, 1), 2) ** 6, Piece((0, 0, 0, 0, 0, 0, 1), 64))

    def test_wrong_powers(self):
        for wrong in NO_INTEGERS + (-1, 7, HUNDRED, Piece((1,))):
            self.assert_error(BadNumber, {"number": wrong}, lambda k: Piece((1, 1)) ** k, wrong)


class TestDivided(Checks):

    def test_the_examples(self):
        p, q = Piece((7, 0, 1)), Piece((3, 1))
        self.assertEqual(p.divided(q), (Piece((-3, 1)), Piece((16,))))
        self.assertEqual(Piece((0, 0, 1)).divided(Piece((1, 2))), (Piece((-1, 2), 4), Piece((1,), 4)))

    def test_quotient_and_rest(self):
        for p, q in itertools.product(SAMPLES, repeat=2):
            if q.degree >= 0:
                pair = p.divided(q)
                self.assertIs(type(pair), tuple)
                a, b = pair
                self.assertEqual(a * q + b, p)
                self.assertLess(b.degree, q.degree)

    def test_small_rows(self):
        for row in itertools.product((-3, 0, 1, 4), repeat=4):
            for divisor in itertools.product((-2, 0, 3), repeat=3):
                p, q = Piece(row, 5), Piece(divisor, 3)
                if q.degree >= 0:
                    a, b = p.divided(q)
                    self.assertEqual(a * q + b, p)
                    self.assertLess(b.degree, q.degree)

    def test_integers_as_divisors(self):
        self.assertEqual(Piece((1, 2)).divided(-4), (Piece((-1, -2), 4), Piece(())))
        self.assertEqual(Piece(()).divided(3), (Piece(()), Piece(())))

    def test_the_divisor_0(self):
        for nothing in (0, Piece(()), Piece((0, 0), 3)):
            for p in (Piece((1, 2)), Piece(())):
                self.assert_error(NoDivisor, {}, p.divided, nothing)


class TestStretched(Checks):

    def test_the_example(self):
        self.assertEqual(Piece((7, 0, 1)).stretched(2, 1), Piece((8, 4, 4)))

    def test_values(self):
        for p in SAMPLES:
            for m, r in ((1, 0), (1, 5), (2, 1), (3, -4), (720, 719), (HUNDRED, -HUNDRED)):
                stretched = p.stretched(m, r)
                for t in (-HUNDRED, -2, 0, 1, 3, HUNDRED):
                    self.assertEqual(exact(stretched, t), exact(p, m * t + r))

    def test_wrong_numbers(self):
        p = Piece((1, 2))
        for wrong in NO_INTEGERS + (0, -1):
            self.assert_error(BadNumber, {"number": wrong}, p.stretched, wrong, 1)
            self.assert_error(BadNumber, {"number": wrong}, p.stretched, wrong, None)
        for wrong in NO_INTEGERS:
            self.assert_error(BadNumber, {"number": wrong}, p.stretched, 1, wrong)


class TestThrough(Checks):

    def test_the_example(self):
        self.assertEqual(Piece.through(5, [1, 4, 9]), Piece((16, -8, 1)))

    def test_the_values_come_back_with_the_least_degree(self):
        for place in (-HUNDRED, -7, 0, 1, 5, HUNDRED):
            for p in (Piece(()), Piece((4,)), Piece((-4, 9)), Piece((0, 1, 1), 2), Piece((0, -1, 0, 1), 6)):
                for more in (1, 2, 5):
                    values = [p(place + k) for k in range(p.degree + more)]
                    self.assertEqual(Piece.through(place, values), p)

    def test_any_values(self):
        for values in itertools.product((-2, 0, 1, 5), repeat=4):
            p = Piece.through(-1, values)
            self.assertEqual([p(-1 + k) for k in range(4)], list(values))
            self.assertLessEqual(p.degree, 3)

    def test_the_empty_list(self):
        self.assertEqual(Piece.through(3, []), Piece(()))
        self.assertEqual(Piece.through(3, ()), Piece(()))
        self.assertEqual(Piece.through(3, [0, 0]), Piece(()))

    def test_wrong_arguments(self):
        for wrong in NO_INTEGERS:
            self.assert_error(BadPlace, {"n": wrong}, Piece.through, wrong, [1, wrong])
            self.assert_error(BadRow, {"index": 1}, Piece.through, 0, [1, wrong, wrong])


class TestExamplesByHand(Checks):
    """The other examples behind [9]."""

    def test_thirds(self):
        p = Piece((2, 4), 6)
        self.assertEqual((p.row, p.under, p.is_whole), ((1, 2), 3, False))
        self.assert_error(NotWhole, {"n": 0}, p, 0)
        self.assertEqual(p(1), 1)

    def test_half_of_n_times_the_next(self):
        p = Piece((0, 1, 1), 2)
        self.assertTrue(p.is_whole)
        self.assertEqual([p(n) for n in range(6)], [n * (n + 1) // 2 for n in range(6)])


if __name__ == "__main__":
    unittest.main()
