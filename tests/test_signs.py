"""Point [10]: signs."""

import itertools
import unittest

from everyfloor.errors import BadNumber, BadPlace
from everyfloor.pieces import Piece
from everyfloor.signs import all_with, last_above, signs_of
from tests.checks import NO_INTEGERS, Checks, sign, value_of

HUNDRED = 10 ** 100 + 39


def with_roots(*roots):
    """The product of n - root for all roots."""
    product = Piece((1,))
    for root in roots:
        product = product * Piece((-root, 1))
    return product


class TestSignsOf(Checks):

    def check_walked(self, p, low, many):
        """The triples are as the document says: by all values from low on, and by none behind that."""
        signs = [sign(value_of(p.row, n)) for n in range(low, low + many)]
        expected = []
        for n, there in enumerate(signs, start=low):
            if expected and expected[-1][2] == there:
                expected[-1] = (expected[-1][0], n, there)
            else:
                expected.append((n, n, there))
        expected[-1] = (expected[-1][0], None, expected[-1][2])
        found = signs_of(p, low)
        self.assertEqual(found, expected, (p.row, low))
        self.assertIs(type(found), list)
        self.assertEqual({type(triple) for triple in found}, {tuple})

    def test_the_examples(self):
        p = Piece((-6, 1, 1))
        self.assertEqual(signs_of(p), [(0, 1, -1), (2, 2, 0), (3, None, 1)])
        self.assertEqual(signs_of(Piece((1, -3, 2))), [(0, 0, 1), (1, 1, 0), (2, None, 1)])
        self.assertEqual(signs_of(p, -4), [(-4, -4, 1), (-3, -3, 0), (-2, 1, -1), (2, 2, 0), (3, None, 1)])

    def test_pieces_that_do_not_move(self):
        for low in (-HUNDRED, -1, 0, 3, HUNDRED):
            self.assertEqual(signs_of(Piece(()), low), [(low, None, 0)])
            self.assertEqual(signs_of(Piece((5,), 2), low), [(low, None, 1)])
            self.assertEqual(signs_of(Piece((-5,), 2), low), [(low, None, -1)])

    def test_all_small_rows(self):
        for row in itertools.product(range(-3, 4), repeat=4):
            for low in (-6, -1, 0, 2):
                self.check_walked(Piece(row, 2), low, 16)

    def test_roots_close_together(self):
        for roots in ((3, 3), (3, 4), (3, 4, 5), (2, 2, 2), (1, 1, 2, 2), (0, 0, 7, 7, 7, 9), (0, 5, 6, 20, 21, 22)):
            for lead in (1, -2):
                for gap in (0, 1, -1):
                    for low in (-3, 0, 3, 4, 21):
                        self.check_walked(with_roots(*roots) * lead + gap, low, 40)

    def test_signs_that_change_between_integers(self):
        # (2 n - 9)(2 n - 11) is below 0 at 5 alone; (4 n - 17)(4 n - 19) is so at no integer.
        self.assertEqual(signs_of(Piece((99, -40, 4))), [(0, 4, 1), (5, 5, -1), (6, None, 1)])
        self.assertEqual(signs_of(Piece((323, -144, 16))), [(0, None, 1)])

    def test_roots_of_any_size(self):
        for far in (HUNDRED, 10 ** 400, 2 ** 64, 2 ** 64 - 1, 65, 64, 63):
            self.assertEqual(signs_of(Piece((-far, 1))), [(0, far - 1, -1), (far, far, 0), (far + 1, None, 1)])
            self.assertEqual(signs_of(Piece((far, -1), 3), -far),
                             [(-far, far - 1, 1), (far, far, 0), (far + 1, None, -1)])
            p = with_roots(far, far + 2, 4 * far, -far)
            self.assertEqual(signs_of(p, -far - 1), [
                (-far - 1, -far - 1, 1), (-far, -far, 0), (-far + 1, far - 1, -1), (far, far, 0),
                (far + 1, far + 1, 1), (far + 2, far + 2, 0), (far + 3, 4 * far - 1, -1), (4 * far, 4 * far, 0),
                (4 * far + 1, None, 1)])
            self.assertEqual(signs_of(p + 1, far + 3), [(far + 3, 4 * far - 1, -1), (4 * far, None, 1)])

    def test_roots_that_are_far_apart(self):
        roots = (1, 10 ** 10, 10 ** 50, HUNDRED)
        found = signs_of(with_roots(*roots))
        self.assertEqual([first for first, last, there in found if there == 0], list(roots))
        self.assertEqual([there for _, _, there in found], [1, 0, -1, 0, 1, 0, -1, 0, 1])

    def test_high_degrees(self):
        roots = [3 * k for k in range(1, 25)]
        self.assertEqual([first for first, last, there in signs_of(with_roots(*roots)) if there == 0], roots)
        self.assertEqual(signs_of(Piece([-(10 ** 80)] + [0] * 7 + [1])),
                         [(0, 10 ** 10 - 1, -1), (10 ** 10, 10 ** 10, 0), (10 ** 10 + 1, None, 1)])

    def test_numbers_of_thousands_of_figures(self):
        # Halving alone, one figure after the other, would take minutes here.
        far = 10 ** 8000 + 7
        self.assertEqual(signs_of(Piece((-far * far, 0, 1))), [(0, far - 1, -1), (far, far, 0), (far + 1, None, 1)])
        self.assertEqual(all_with(Piece((0, 0, 0, 1)), far ** 3), [far])
        self.assertEqual(last_above(with_roots(5, far) * -1 - 1), far - 1)

    def test_wrong_low(self):
        for wrong in NO_INTEGERS:
            self.assert_error(BadPlace, {"n": wrong}, signs_of, Piece((1, 2)), wrong)

    def test_each_call_returns_a_new_list(self):
        p = Piece((-6, 1, 1))
        signs_of(p).clear()
        self.assertEqual(len(signs_of(p)), 3)


class TestLastAbove(Checks):

    def test_the_examples(self):
        self.assertEqual(last_above(Piece((10, -3))), 3)
        self.assertEqual(last_above(Piece((-1, -1))), -1)
        self.assertIsNone(last_above(Piece((0, 1))))

    def test_edges(self):
        self.assertEqual(last_above(Piece(())), -1)
        self.assertIsNone(last_above(Piece((1,), 5)))
        self.assertEqual(last_above(Piece((-1,), 5)), -1)
        self.assertEqual(last_above(Piece((1, -1))), 0)
        self.assertEqual(last_above(Piece((0, -1))), -1)
        # Above 0 below 0 alone.
        self.assertEqual(last_above(-with_roots(-5, -1)), -1)
        self.assertEqual(last_above(-with_roots(2, 9)), 8)
        self.assertEqual(last_above(Piece((HUNDRED * HUNDRED, 0, -1))), HUNDRED - 1)

    def test_small_rows(self):
        for row in itertools.product(range(-3, 4), repeat=3):
            above = [n for n in range(50) if value_of(row, n) > 0]
            expected = None if 49 in above else max(above, default=-1)
            self.assertEqual(last_above(Piece(row, 3)), expected)


class TestAllWith(Checks):

    def test_the_examples(self):
        self.assertEqual(all_with(Piece((10, -9, 2)), 3), [1])
        self.assertIsNone(all_with(Piece((4,)), 4))
        self.assertEqual(all_with(Piece((4,)), 5), [])

    def test_edges(self):
        self.assertIsNone(all_with(Piece(()), 0))
        self.assertEqual(all_with(Piece(()), 1), [])
        self.assertEqual(all_with(Piece((1,), 2), 0), [])
        self.assertEqual(all_with(Piece((3, 1)), 0), [])
        self.assertEqual(all_with(Piece((0, 1, 1), 2), 5050), [100])
        self.assertEqual(all_with(with_roots(4, 5, 6, 9) + 7, 7), [4, 5, 6, 9])
        self.assertEqual(all_with(with_roots(-4, 0, 5), 0), [0, 5])

    def test_values_of_any_size(self):
        self.assertEqual(all_with(Piece((0, -9, 1)), 10 ** 30 - 9 * 10 ** 15), [10 ** 15])
        self.assertEqual(all_with(Piece((0, 0, 0, 1)), HUNDRED ** 3), [HUNDRED])
        self.assertEqual(all_with(Piece((0, 0, 0, 1)), HUNDRED ** 3 + 1), [])
        self.assertEqual(all_with(Piece((0, 2), 3), -HUNDRED), [])

    def test_wrong_values(self):
        for wrong in NO_INTEGERS:
            self.assert_error(BadNumber, {"number": wrong}, all_with, Piece((1, 2)), wrong)


if __name__ == "__main__":
    unittest.main()
