"""Point [50]: the texts of formulas and tests, by the way in which they were made."""

import unittest

from everyfloor.compare import atmost, less, same, when
from everyfloor.formulas import gcd, greatest, least, unknown, whole
from everyfloor.pieces import Piece
from everyfloor.within import by_data, count, place, total

n = unknown()


class TestTexts(unittest.TestCase):

    def check(self, text, made):
        self.assertEqual(made.text, text)
        self.assertIs(type(made.text), str)

    def test_the_unknown_and_integers(self):
        self.check("n", n)
        for c in (-1000, -7, 0, 7, 1000):
            self.check(str(c), whole(c))

    def test_arithmetic(self):
        self.check("(n + 1)", n + 1)
        self.check("(1 - n)", 1 - n)
        self.check("(-5 * n)", -5 * n)
        self.check("((n * n) // (n + 3))", n * n // (n + 3))
        self.check("(n mod -3)", n % -3)
        self.check("(7 // n)", 7 // n)
        self.check("(7 mod n)", 7 % n)
        self.check("(7 + n)", 7 + n)
        self.check("(n - -1000)", n - -1000)
        self.check("(n ** 0)", n ** 0)
        self.check("((n + n) ** 6)", (n + n) ** 6)
        self.check("minus(n)", -n)
        self.check("minus(minus(5))", --whole(5))
        self.check("abs((n - 5))", abs(n - 5))

    def test_functions_of_two(self):
        self.check("gcd(n, 6)", gcd(n, 6))
        self.check("least(3, (n + 1))", least(3, n + 1))
        self.check("greatest(1, 2)", greatest(1, 2))

    def test_tests_and_choices(self):
        self.check("(n < 5)", less(n, 5))
        self.check("(5 <= n)", atmost(5, n))
        self.check("((n * n) == 4)", same(n * n, 4))
        self.check("not (n < 5)", ~less(n, 5))
        self.check("not not (n < 5)", ~~less(n, 5))
        self.check("((n < 5) and not (n == 3))", less(n, 5) & ~same(n, 3))
        self.check("(((n < 5) or (1 < 2)) or (n == 9))", less(n, 5) | less(1, 2) | same(n, 9))
        self.check("not ((n < 5) and (n < 6))", ~(less(n, 5) & less(n, 6)))
        self.check("when((n < 5), n, ((2 * n) - 4))", when(less(n, 5), n, 2 * n - 4))
        self.check("when(not (n == 0), 1, -1)", when(~same(n, 0), 1, -1))

    def test_formulas_within_formulas(self):
        self.check("at((n mod 4), (n ** 2))", (n % 4)(n ** 2))
        self.check("at(at(n, n), 5)", n(n)(whole(5)))
        self.check("total(n, (n - 1))", total(n, n - 1))
        self.check("total(3, 4)", total(3, 4))
        self.check("count((n < 3), n)", count(less(n, 3), n))
        self.check("place(not (n < 3), 7)", place(~less(n, 3), 7))

    def test_data(self):
        self.check("given(; 0)", by_data([], [Piece(())]))
        self.check("given(; none)", by_data([None], [None]))
        self.check("given(; 0 1)", by_data([0, 1, 2], [Piece((0, 1)), Piece((0, 1))]))
        self.check("given(; 0 1/2, -1/2 1/2)", by_data([], [Piece((0, 1), 2), Piece((-1, 1), 2)]))
        self.check("given(7, none, -3; 0 0 1, none)", by_data([7, None, -3], [Piece((0, 0, 1)), None]))
        self.check("given(5, 5; 0 -1/2 1/2)", by_data([5, 5], [Piece((0, -1, 1), 2)]))
        self.check("given(none; -2 0 0 1/3, 4, none)", by_data(
            [None, 4, None, 7], [Piece((-6, 0, 0, 1), 3), Piece((4,)), None]))

    def test_data_of_any_size(self):
        for power in (63, 64, 65, 128, 300, 4400, 9000):
            for number in (10 ** power, 10 ** power - 1, 10 ** power + 1):
                head = {0: "1" + "0" * power, -1: "9" * power, 1: "1" + "0" * (power - 1) + "1"}[number - 10 ** power]
                self.check(f"given(-{head}; {head})", by_data([-number, number], [Piece((number,))]))
        self.check("given(; 0 1/6 1/2 1/3)", by_data([], [Piece((0, 1, 3, 2), 6)]))

    def test_equal_formulas_may_have_different_texts(self):
        self.assertEqual(n + n, 2 * n)
        self.assertNotEqual((n + n).text, (2 * n).text)

    def test_parts_that_are_made_on_the_way_are_not_told(self):
        self.assertNotIn("mod", (n // 7)(n).text + total(n // 7, n).text + place(less(5, n), n).text)


if __name__ == "__main__":
    unittest.main()
