"""Points [18] to [20], [36], [43] and [44]: least starts that are far below the end of the values that are told."""

import unittest
from random import Random

from everyfloor.backs import simplest, told_back
from everyfloor.compare import less, same, when
from everyfloor.errors import TooLate
from everyfloor.formulas import gcd, greatest, least, unknown, whole
from everyfloor.pieces import Piece
from everyfloor.within import by_data
from tests.checks import value_of
from tests.twins import HUNDRED, LATE, TEN, Twins, given

n = unknown()
# Rows of pieces, with the least period each: whole at the n with their rests, None among them or alone.
ROWS = (
    [Piece((0, 1))],
    [Piece(())],
    [None],
    [Piece((0, 1, 1), 2)],
    [Piece((0, 1), 2), None],
    [None, Piece((-1, 1), 2)],
    [Piece((5,)), None, Piece((-2, 1), 3)],
    [None, None, Piece((4, 0, 1)), None, Piece((-HUNDRED,))],
    [Piece((-r * r, 0, 1), 7) for r in range(7)],
    [None if r % 4 == 2 else Piece((r % 5, -r)) for r in range(40)],
    [None if r == 11 else Piece((-r, 1), 120) for r in range(120)])


def value_at(pieces, n):
    """What a row of pieces tells at n: an integer, or None for undefined."""
    piece = pieces[n % len(pieces)]
    return None if piece is None else value_of(piece.row, n) // piece.under


def values_to(pieces, many):
    return [value_at(pieces, n) for n in range(many)]


def other_values(value):
    """Values that are not the one that the row tells, which may be None."""
    return (0, -7, HUNDRED) if value is None else (None, value + 1, -value - 1)


def least_start(values, pieces):
    """The least start, by the words of [18]: the row is not followed at the number ahead of it."""
    for n in reversed(range(len(values))):
        if values[n] != value_at(pieces, n):
            return n + 1
    return 0


class TestStartsFarBelow(Twins):

    def assert_told(self, values, pieces, start):
        """The formula of the values, which are followed by the pieces, has this least start; the pieces are least."""
        f = by_data(values, pieces)
        self.assertEqual((f.start, f.below, f.pieces), (start, tuple(values[:start]), tuple(pieces)))
        for k in (start, start + 1, len(values), HUNDRED, HUNDRED + 1):
            self.assertEqual(given(f, k), value_at(pieces, k))
        return f

    def changed(self, pieces, many, places):
        """The first values of a row, with another one at each of the places."""
        values = values_to(pieces, many)
        for turn, place in enumerate(places):
            values[place] = other_values(values[place])[turn % 3]
        return values

    def test_all_values_are_those_of_the_row(self):
        for pieces in ROWS:
            for many in (0, 1, 31, 32, 33, 34, 400, 2001):
                self.assert_told(values_to(pieces, many), pieces, 0)

    def test_no_value_is_that_of_the_row(self):
        for pieces in ROWS:
            for many in (1, 32, 33, 500):
                self.assert_told(self.changed(pieces, many, range(many)), pieces, many)

    def test_one_value_in_the_middle(self):
        many = 500
        for pieces in ROWS:
            m = len(pieces)
            for place in {0, 1, m - 1, m, m + 1, 2 * m - 1, 2 * m, 249, 250, 251, many - 34, many - 33, many - 32,
                          many - 31, many - 2, many - 1}:
                values = values_to(pieces, many)
                for value in other_values(values[place]):
                    f = self.assert_told(values[:place] + [value] + values[place + 1:], pieces, place + 1)
                    self.assertEqual(given(f, place), value)
                    self.assert_least(f)

    def test_one_value_of_each_rest(self):
        for pieces in ROWS:
            m = len(pieces)
            for place in range(m, 2 * m):
                self.assert_told(self.changed(pieces, 6 * m + 100, [place]), pieces, place + 1)

    def test_the_last_of_several_values_of_one_rest(self):
        for pieces in ROWS:
            m = len(pieces)
            for r in range(0, m, 3):
                self.assert_told(self.changed(pieces, 9 * m + 200, [r, r + m, r + 4 * m]), pieces, r + 4 * m + 1)

    def test_the_last_of_several_rests(self):
        pieces = ROWS[8]
        # The last one is of the first rest, of one in the middle, and of the last rest.
        for places in ([5, 13, 16, 21], [20, 14, 24, 3], [0, 1, 2, 27], [7, 8, 9, 10, 11, 12, 13]):
            self.assert_told(self.changed(pieces, 300, places), pieces, max(places) + 1)
        # One that tells a value where the row tells none, and one that tells none where the row has a value.
        pieces = ROWS[7]
        for places in ([30, 52], [52, 30], [100, 104], [101, 102], [103, 103 + 5]):
            self.assert_told(self.changed(pieces, 300, places), pieces, max(places) + 1)

    def test_pieces_that_tell_no_value(self):
        for m in (1, 2, 7):
            pieces = [None] * m
            f = by_data([None] * 60 + [0] + [None] * 200, pieces)
            self.assertEqual((f.start, f.below, f.pieces), (61, (None,) * 60 + (0,), (None,)))
            self.assertEqual(by_data([None] * 300, pieces).below, ())
        # 0 is a value: the row with None is not followed where the values are 0, nor the other way round.
        self.assertEqual(by_data([None] * 200, [Piece(())]).start, 200)
        self.assertEqual(by_data([0] * 200, [None]).start, 200)
        self.assertEqual(by_data([None, 0] * 100, [Piece(()), None]).start, 200)
        self.assertEqual(by_data([0, None] * 100, [Piece(()), None]).start, 0)

    def test_drawn_values(self):
        draw = Random(13)
        for _ in range(1500):
            pieces = draw.choice(ROWS)
            many = draw.randrange(1, 400)
            values = self.changed(pieces, many, [draw.randrange(many) for _ in range(draw.randrange(5))])
            self.assert_told(values, pieces, least_start(values, pieces))

    def test_the_bound_of_starts(self):
        for pieces in (ROWS[0], ROWS[2], ROWS[6], ROWS[10]):
            for many in (10040, 25000):
                self.assert_told(self.changed(pieces, many, [9999]), pieces, 10000)
                self.assert_told(self.changed(pieces, many, [8, 4000, 17]), pieces, 4001)
                for places in ([10000], [3, 10001], [10020, 5000]):
                    self.assert_error(TooLate, LATE, by_data, self.changed(pieces, many, places), pieces)


def bump(place):
    """The formula that is 1 at the place and 0 everywhere else."""
    return when(same(n, whole(1000) * (place // 1000) + place % 1000), 1, 0)


class TestStartsOfMadeFormulas(Twins):
    """Formulas that follow their pieces long before their parts do."""

    def test_values_that_come_round(self):
        late = when(less(n, 8 * whole(1000)), n % 7, n * n)
        self.assertEqual(late.start, 8000)
        for k in (0, 40, 41, 42, 43, 44, 45, 46, 3000, 7900):
            for f in (late - late + bump(k) + n % 7, n % 7 - (late + bump(k)) + late, abs(late * 0 - bump(k)) + n % 7,
                      (late + 1) // (late + 1) * n % 7 + bump(k), least(late * late, bump(k)) * late + n % 7 + bump(k),
                      n % 7 + late % 1 - bump(k), greatest(gcd(late, late) - late, bump(k)) + n % 7):
                self.assertEqual((f.start, f.period), (k + 1, 7), f.text)
                self.assertEqual(f.pieces, tuple(Piece((r,)) for r in range(7)))
                self.assertNotEqual(given(f, k), k % 7)

    def test_values_that_are_told_for_some_rests_alone(self):
        late = when(less(n, 8 * whole(1000)), n, -n)
        undefined = late - late + 0 // (n % 3)
        self.assertEqual((undefined.start, undefined.pieces), (0, (None, Piece(()), Piece(()))))
        for k in (49, 50, 52, 700, 701, 7000):
            f = undefined + bump(k)
            self.assertEqual((f.start, f.pieces, f(k)), (k + 1, undefined.pieces, 1))
            f = undefined + 0 // (1 - bump(k))
            self.assertEqual((f.start, f.pieces, f.below[k]), (k + 1, undefined.pieces, None))
        for k in (48, 51, 6999):
            # Where it is undefined as all n with this rest are, nothing else is told.
            self.assertEqual(undefined + bump(k), undefined)
            f = when(same(bump(k), 1), 5, undefined)
            self.assertEqual((f.start, f.pieces, f(k)), (k + 1, undefined.pieces, 5))
        self.assertEqual((late // 0).below, ())


class TestStartsToldBack(Twins):

    def test_told_back_with_starts_that_are_not_the_least(self):
        for pieces in ROWS:
            m = len(pieces)
            want = 400 + 3 * m
            for place in (0, 30, 31, 200, 201, 202, 367, 368, 399):
                values = values_to(pieces, want)
                values[place] = other_values(values[place])[place % 3]
                f = told_back(values, 400, m, 2)
                self.assertEqual((f.start, f.below, f.pieces), (place + 1, tuple(values[:place + 1]), tuple(pieces)))
            self.assertEqual(told_back(values_to(pieces, want), 400, m, 2).start, 0)

    def test_simplest_with_one_value_in_the_middle(self):
        for pieces in ROWS[:8]:
            for place in (0, 99, 100, 101, 170):
                values = values_to(pieces, 300)
                values[place] = other_values(values[place])[place % 3]
                f = simplest(values)
                self.assertEqual((f.start, f.pieces), (place + 1, tuple(pieces)))
        self.assertEqual(simplest([None] * 100 + [5] + [None] * 100).start, 101)
        self.assertEqual(simplest([5] * 100 + [None] + [5] * 100).start, 101)

    def test_late_starts_of_values(self):
        late = when(same(n, TEN - 1), 1, n % 5)
        values = [given(late, k) for k in range(TEN(0) + 40)]
        self.assertEqual((told_back(values, 10000, 5, 0), simplest(values)), (late, late))
        values[200] = None
        self.assertEqual(told_back(values[:9999] + [4] + values[10000:], 10000, 5, 0).start, 201)


if __name__ == "__main__":
    unittest.main()
