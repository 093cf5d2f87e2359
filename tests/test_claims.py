"""Points [38] to [42], and the examples behind [44] that speak of them: what is true at every n."""

import math

from everyfloor.claims import (
    alike, always, common, highest, holds_from, least_from, lowest, reached, remainders, solved)
from everyfloor.compare import atmost, less, same, when
from everyfloor.errors import BadNumber, BadWhole, NoBound, NoValue, TooMany
from everyfloor.formulas import gcd, unknown, whole
from everyfloor.pieces import Piece
from everyfloor.wheres import Where
from everyfloor.within import by_data, total
from tests.checks import NO_INTEGERS
from tests.twins import HUNDRED, NO_WHOLES, TEN, UNDEFINED, Twins, given

n = unknown()
HOLE = 6 // (n - 3)
SAMPLES = (
    n, whole(-4), n * n - 10 * n, HOLE, n // 3 * (n % 3), abs(n - 12) // 2, n % 7 - 30 // (n + 1), UNDEFINED,
    n ** 3 - 40 * n * n + 300 * n, gcd(n * n + 3, 12), n // (n % 2), when(less(n, 9), 5 - n, UNDEFINED),
    by_data([None, 3, None], [None, Piece((0, 1))]), (n - 6) ** 2 * (n - 15) ** 2, total(n % 5 - 1, n))


class TestExamples(Twins):
    """The examples by hand behind [44]."""

    def test_solved(self):
        self.assertEqual(solved((n * n + 7) % (n + 3), 0), (Where.of([]), (1, 5, 13)))

    def test_least_from_and_lowest_and_highest(self):
        f = n * n - 10 * n
        self.assertEqual(least_from(f, 0), 10)
        self.assertEqual(lowest(f), (-25, 5))
        self.assert_error(NoBound, {"n": 1006}, highest, f)

    def test_common_and_remainders(self):
        self.assertEqual(common(n * n * n - n), 6)
        self.assertEqual(remainders(n * n, 8), (0, 1, 4))

    def test_reached(self):
        self.assertEqual(reached(n % 3), (0, 1, 2))
        self.assertEqual(reached(12 // (n + 1)), (0, 1, 2, 3, 4, 6, 12))


class TestAlike(Twins):
    """Point [38]."""

    def test_as_the_values_are(self):
        for f in SAMPLES:
            for g in SAMPLES:
                parts = [k for k in range(400) if given(f, k) != given(g, k)]
                self.assertEqual(alike(f, g), parts[0] if parts else None)

    def test_where_one_is_undefined(self):
        self.assertEqual(alike(HOLE, when(same(n, 3), 0, HOLE)), 3)
        self.assertIsNone(alike(UNDEFINED, n // 0))
        self.assertEqual(alike(0 // n, 0), 0)
        self.assertEqual(alike(n // (n % 3 - 2), n // (n % 3 - 2) + 0 * (n // (n % 3))), 0)

    def test_far_away(self):
        self.assertEqual(alike(when(less(n, TEN), 1, 2), 1), 10000)
        self.assertEqual(alike(when(same(n, TEN - 1), 1, 2), 2), 9999)
        self.assertEqual(alike(n % 719, n % 720), 719)
        self.assertEqual(alike(same_but_at(719, 718), same_but_at(720, 719)), 718)
        self.assertEqual(alike(same_but_at(719, 700), 0), 700)
        self.assertEqual(alike(n * 0, n * (n - 1) * (n - 2) * (n - 3) * (n - 4) * (n - 5) * (n - 6) * (n - 7)), 8)

    def test_integers_and_other_values(self):
        self.assertIsNone(alike(5, 5))
        self.assertEqual(alike(5, n), 0)
        self.assertEqual(alike(n, 0), 1)
        for wrong in NO_WHOLES:
            self.assert_error(BadWhole, {"value": wrong}, alike, n, wrong)
            self.assert_error(BadWhole, {"value": wrong}, alike, wrong, "later")

    def test_always(self):
        self.assertIsNone(always(less(n, n + 1)))
        self.assertEqual(always(less(n, 7)), 7)
        self.assertEqual(always(less(HOLE, 100)), 3)
        self.assertEqual(always(same(n % 3, 0)), 1)
        self.assertEqual(always(same(UNDEFINED, 0)), 0)
        self.assertEqual(always(less(n, TEN)), 10000)
        self.assertEqual(always(~same(n, TEN - 1)), 9999)


def same_but_at(m, r):
    """0 but at the n with the rest r by m."""
    return by_data([], [Piece((int(k == r),)) for k in range(m)])


class TestFrom(Twins):
    """Point [39]."""

    def test_holds_from(self):
        for t, low in ((less(5, n), 6), (less(n, 5), None), (same(n, n), 0), (same(n % 2, 0), None),
                       (less(HOLE, 1), 10), (less(HOLE, 9), 4), (~same(n, TEN - 1), 10000), (same(UNDEFINED, 1), None),
                       (less(n, 9) | less(12, n), 13), (same(n // (n % 2), n), None)):
            self.assertEqual(holds_from(t), low, t.text)

    def test_least_from_as_the_values_are(self):
        for f in SAMPLES:
            for v in (-30, -1, 0, 1, 7, 100):
                good = [given(f, k) is not None and given(f, k) >= v for k in range(2000)]
                ends = [k for k in range(2000) if not good[k]]
                expected = None if ends and ends[-1] > 1900 else ends[-1] + 1 if ends else 0
                self.assertEqual(least_from(f, v), expected, (f.text, v))

    def test_least_from_of_any_size(self):
        self.assertEqual(least_from(n, HUNDRED), HUNDRED)
        self.assertEqual(least_from(n, -HUNDRED), 0)
        self.assertEqual(least_from(n * n, HUNDRED * HUNDRED - 1), HUNDRED)
        self.assertEqual(least_from(n // 7 * 2 - n % 7, 2 * HUNDRED), 7 * (HUNDRED + 3))
        self.assertEqual(least_from(5, 5), 0)
        self.assertIsNone(least_from(5, 6))
        self.assertIsNone(least_from(-n, -HUNDRED))

    def test_wrong_values(self):
        for wrong in NO_INTEGERS + (n,):
            self.assert_error(BadNumber, {"number": wrong}, least_from, n, wrong)
            self.assert_error(BadNumber, {"number": wrong}, least_from, "later", wrong)
        for wrong in NO_WHOLES:
            self.assert_error(BadWhole, {"value": wrong}, least_from, wrong, 5)


class TestSolved(Twins):
    """Point [40]."""

    def test_as_the_values_are(self):
        for f in SAMPLES:
            for v in (-7, -4, -1, 0, 1, 2, 5, 144, 1296):
                w, others = solved(f, v)
                self.assertEqual((type(w), type(others)), (Where, tuple))
                found = [k for k in range(500) if k in w or k in others]
                self.assertEqual(found, [k for k in range(500) if given(f, k) == v], (f.text, v))
                self.assertEqual(list(others), sorted(others))
                for k in range(500):
                    steady = k >= f.start and f.pieces[k % f.period] == Piece((v,))
                    self.assertIs(k in w, steady)

    def test_values_of_any_size(self):
        self.assertEqual(solved(n * n - 9 * n, 10 ** 30 - 9 * 10 ** 15)[1], (10 ** 15,))
        self.assertEqual(solved(n, HUNDRED), (Where.of([]), (HUNDRED,)))
        self.assertEqual(solved(n // 3, HUNDRED)[1], (3 * HUNDRED, 3 * HUNDRED + 1, 3 * HUNDRED + 2))
        self.assertEqual(solved(n, -HUNDRED), (Where.of([]), ()))
        self.assertEqual(solved(5, 5), (Where.since(0), ()))

    def test_n_below_the_start_are_others(self):
        self.assertEqual(solved(abs(n // 3 * 0 + 7) // (n + 1) * 0 + when(less(n, 2), 7, when(less(n, 4), 1, 7)), 7),
                         (Where.since(4), (0, 1)))

    def test_wrong_values(self):
        for wrong in NO_INTEGERS + (n,):
            self.assert_error(BadNumber, {"number": wrong}, solved, n, wrong)
            self.assert_error(BadNumber, {"number": wrong}, solved, "later", wrong)
        for wrong in NO_WHOLES:
            self.assert_error(BadWhole, {"value": wrong}, solved, wrong, 5)


class TestReached(Twins):
    """Point [40]."""

    def test_as_the_values_are(self):
        for f in SAMPLES:
            values = sorted({given(f, k) for k in range(400)} - {None})
            infinite = any(piece is not None and piece.degree > 0 for piece in f.pieces)
            self.assertEqual(reached(f), None if infinite else tuple(values), f.text)

    def test_edges(self):
        self.assertEqual(reached(UNDEFINED), ())
        self.assertEqual(reached(-7), (-7,))
        self.assertEqual(reached(when(less(n, 3), HUNDRED_FORMULA, UNDEFINED)), (HUNDRED,))
        self.assertIsNone(reached(when(same(n % 2, 0), n, 1)))

    def test_many_values(self):
        told = {"what": "values", "many": 10001, "most": 10000}
        self.assertEqual(reached(by_data(list(range(10000)), [Piece((9999,))])), tuple(range(10000)))
        self.assert_error(TooMany, told, reached, by_data(list(range(10000)), [Piece((-1,))]))
        self.assert_error(TooMany, told, reached, by_data(list(range(10000)), [Piece((-r,)) for r in range(720)]))
        self.assertIsNone(reached(by_data(list(range(10000)), [Piece((-1,)), Piece((0, 1))])))

    def test_other_values(self):
        for wrong in NO_WHOLES:
            self.assert_error(BadWhole, {"value": wrong}, reached, wrong)


HUNDRED_FORMULA = by_data([], [Piece((HUNDRED,))])


class TestLowest(Twins):
    """Point [41]."""

    def check(self, function, f, sign, bound):
        values = [(sign * given(f, k), k) for k in range(4500) if given(f, k) is not None]
        if not values:
            self.assert_error(NoValue, {}, function, f, bound)
        elif any(piece is not None and piece.degree > 0 and piece.end != sign for piece in f.pieces):
            passed = [k for value, k in values if value < sign * bound]
            self.assert_error(NoBound, {"n": passed[0]}, function, f, bound)
        else:
            self.assertEqual(function(f, bound), (sign * min(values)[0], min(values)[1]), f.text)

    def test_as_the_values_are(self):
        for f in SAMPLES:
            for bound in (-2000, -3, 0, 5, 1000):
                self.check(lowest, f, 1, bound)
                self.check(highest, f, -1, bound)
                self.check(lowest, -f, 1, bound)

    def test_bounds(self):
        self.assert_error(NoBound, {"n": 1000001}, lowest, -n)
        self.assert_error(NoBound, {"n": 1000001}, highest, n)
        self.assert_error(NoBound, {"n": 7}, highest, n, 6)
        self.assert_error(NoBound, {"n": 0}, highest, n, -1)
        self.assert_error(NoBound, {"n": HUNDRED + 1}, highest, n, HUNDRED)
        self.assert_error(NoBound, {"n": HUNDRED + 1}, lowest, -n, -HUNDRED)
        # The least n at which the bound is passed may be one whose rest has a greatest value.
        f = when(same(n % 2, 0), n, when(same(n, 3), 900, 1))
        self.assert_error(NoBound, {"n": 3}, highest, f, 800)
        self.assert_error(NoBound, {"n": 902}, highest, f, 900)
        # A bound does nothing where there is a least value.
        self.assertEqual(lowest(n, 1000), (0, 0))

    def test_the_least_n(self):
        self.assertEqual(lowest(abs(n - 5) // 3), (0, 3))
        self.assertEqual(lowest((n - 4) ** 2 * (n - 9) ** 2), (0, 4))
        self.assertEqual(highest(n % 5), (4, 4))
        self.assertEqual(highest(-((2 * n - 9) ** 2)), (-1, 4))
        self.assertEqual(lowest(7), (7, 0))
        self.assertEqual(lowest((n * n - 9 * n) // 2 + n % 2), (-10, 4))
        self.assertEqual(highest((n * n + n) // 2 * -7), (0, 0))
        self.assertEqual(lowest(HOLE), (-6, 2))
        self.assertEqual(highest(HOLE), (6, 4))
        # The rests one by one: the same least value at another n, or a greater one at a smaller n.
        even = same(n % 2, 0)
        self.assertEqual(lowest(when(even, (n - 30) ** 2, (n - 5) ** 2)), (0, 5))
        self.assertEqual(lowest(when(even, (n - 4) ** 2, (n - 9) ** 2)), (0, 4))
        self.assertEqual(lowest(when(even, (n - 30) ** 2, (n - 5) ** 2 + 1)), (0, 30))
        self.assertEqual(lowest(when(even, (n - 4) ** 2 + 30, (n - 31) ** 2)), (0, 31))

    def test_values_of_any_size(self):
        f = by_data([], [Piece((0, -2 * HUNDRED, 1))])
        self.assertEqual(lowest(f), (-HUNDRED ** 2, HUNDRED))

    def test_errors(self):
        for function in (lowest, highest):
            for wrong in NO_INTEGERS + (n,):
                self.assert_error(BadNumber, {"number": wrong}, function, n, wrong)
                self.assert_error(BadNumber, {"number": wrong}, function, "later", wrong)
            for wrong in NO_WHOLES:
                self.assert_error(BadWhole, {"value": wrong}, function, wrong)
            self.assert_error(NoValue, {}, function, UNDEFINED)


class TestDivisors(Twins):
    """Point [42]."""

    def test_common_as_the_values_are(self):
        for f in SAMPLES + (n ** 5 - n, 7 * n * n + 14, 4 + 6 * (n % 2), n * (n + 1) // 2 * 10, 0 * n):
            values = [given(f, k) for k in range(2000) if given(f, k) is not None]
            self.assertEqual(common(f), math.gcd(*values), f.text)

    def test_common_edges(self):
        self.assertEqual([common(UNDEFINED), common(0), common(-6), common(n), common(n - n)], [0, 0, 6, 1, 0])
        self.assertEqual(common(by_data([15], [Piece((0, 6))])), 3)
        self.assertEqual([common((n * n + n) // 2), common((n * n + n) // 2 * 9), common(n ** 3 - n)], [1, 9, 6])
        self.assertEqual(common(by_data([], [Piece((HUNDRED,)), Piece((2 * HUNDRED,))])), HUNDRED)
        for wrong in NO_WHOLES:
            self.assert_error(BadWhole, {"value": wrong}, common, wrong)

    def test_remainders_as_the_values_are(self):
        for f in SAMPLES + (n ** 5 - n, total(n, n), total(n * n, n), total(total(n, n), n)):
            for m in (1, 2, 3, 4, 8, 9, 12, 25):
                values = {given(f, k) % m for k in range(3000) if given(f, k) is not None}
                self.assertEqual(remainders(f, m), tuple(sorted(values)), (f.text, m))

    def test_remainders_of_high_degrees(self):
        # n choose 8 by 64 comes round after 512 steps, by 81 after 243, by 100 after 4000.
        f = n
        for k in range(1, 8):
            f = f * (n - k)
        f = f // 720 // 56
        self.assertEqual(f.pieces[0].degree, 8)
        for m in (64, 81, 97, 98, 100):
            self.assertEqual(remainders(f, m), tuple(sorted({math.comb(k, 8) % m for k in range(20000)})))

    def test_remainders_edges(self):
        self.assertEqual([remainders(UNDEFINED, 7), remainders(-1, 100), remainders(n, 100)],
                         [(), (99,), tuple(range(100))])
        self.assertEqual(remainders(when(less(n, 2), 3, 7), 5), (2, 3))

    def test_remainders_by_wrong_numbers(self):
        for wrong in NO_INTEGERS + (0, -1, 101, HUNDRED, n):
            self.assert_error(BadNumber, {"number": wrong}, remainders, n, wrong)
            self.assert_error(BadNumber, {"number": wrong}, remainders, "later", wrong)
        for wrong in NO_WHOLES:
            self.assert_error(BadWhole, {"value": wrong}, remainders, wrong, 7)


class TestTests(Twins):

    def test_claims_about_tests_that_are_undefined_somewhere(self):
        t = atmost(n // (n - 4), 3)
        self.assertEqual((always(t), holds_from(t)), (4, 6))
        self.assertEqual((t.fails, ~(t.holds | t.fails)), (Where.of([5]), Where.of([4])))
