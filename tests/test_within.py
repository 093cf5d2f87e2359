"""Points [31] to [37]: formulas at formulas, sums, counts, places, and formulas told by their data."""

import itertools

from everyfloor.compare import less, same, when
from everyfloor.errors import BadPiece, BadWhole, NoPieces, TooFine, TooHigh, TooLate
from everyfloor.formulas import gcd, unknown, whole
from everyfloor.pieces import Piece
from everyfloor.wheres import Where
from everyfloor.within import by_data, count, place, total
from tests.twins import FINE, HIGH, HUNDRED, LATE, NO_WHOLES, TEN, UNDEFINED, Twins, given

n = unknown()


class TestAt(Twins):
    """Point [31]."""

    def test_the_examples(self):
        f = 6 // (n - 3)
        self.assert_values(f, [-2, -3, -6, None, 6, 3, 2, 1, 1, 1, 0, 0])
        self.assertEqual(f.start, 10)
        g = f((n - 4) ** 2)
        self.assert_values(g, [0, 1, 6, -3, -2, -3, 6, 1, 0, 0, 0])
        self.assertEqual((g.start, g.pieces), (8, (Piece(()),)))
        g = f(5 - n)
        self.assert_values(g, [3, 6, None, -6, -3, -2, None, None])
        self.assertEqual((g.start, g.pieces), (6, (None,)))
        g = (n % 4)((n * n + n) // 2)
        self.assert_values(g, [0, 1, 3, 2, 2, 3, 1, 0] * 3)
        self.assertEqual((g.period, g.start), (8, 0))

    def test_values(self):
        outer = (lambda k: k.n * k.n - 7, lambda k: 6 // (k.n - 3), lambda k: k.n // 4 + 2 // (k.n % 3),
                 lambda k: k.when(k.less(k.n, 30), k.n % 5, k.n), lambda k: 0 // (k.n - 20), lambda k: k.n // 0,
                 lambda k: k.when(k.less(k.n, 9), k.n, k.n // 0))
        inner = (lambda k: k.n - 12, lambda k: 25 - k.n, lambda k: k.n * k.n // 3, lambda k: k.n % 6, lambda k: 4 * 5,
                 lambda k: 0 * k.n - 1, lambda k: 60 // (k.n - 2), lambda k: (k.n - 7) * (k.n - 30),
                 lambda k: k.n // (k.n % 2), lambda k: 3 * k.n)
        for f, g in itertools.product(outer, inner):
            self.assert_twins(lambda k: f(k)(g(k) + 0 * k.n), 120)

    def test_three_in_each_other(self):
        for f, g, h in itertools.product((n // 3, n * n - 5, 6 // (n - 3)), repeat=3):
            self.assertEqual(f(g)(h), f(g(h)))

    def test_the_unknown(self):
        for f in (n // 3, 6 // (n - 3), n % 7, UNDEFINED):
            self.assertEqual((f(n), n(f)), (f, when(less(f, 0), UNDEFINED, f)))

    def test_the_third_part_counts(self):
        # The squares come round by 500 after 250, and by 720 after 120.
        self.assertEqual((n % 500)(n * n + 0 * n).period, 250)
        self.assert_error(TooFine, FINE, lambda: (n % 7)(n // 104))
        self.assertEqual((n % 7)(n // 102).period, 714)
        self.assert_error(TooFine, FINE, lambda: (n % 25)(n % 36))
        # The rests come ahead of the rest: of them alone the period is too great.
        self.assert_error(TooFine, FINE, lambda: (n % 720)(n // 2))

    def test_degrees(self):
        self.assertEqual((n ** 4)(n * n), n ** 4 * n ** 4)
        self.assertEqual((n ** 4)(n % 7), (n % 7) ** 4)
        self.assertEqual((n - n + 7)(n ** 6), whole(7))
        self.assert_error(TooHigh, HIGH, lambda: (n ** 3)(n ** 3))
        self.assertEqual((n ** 3)(-n ** 3 - 1), UNDEFINED)
        # The degree comes ahead of the start.
        self.assert_error(TooHigh, HIGH, lambda: (n ** 3)(n ** 3 - TEN ** 4))

    def test_starts(self):
        f = 6 // (n - 3)
        self.assertEqual(f(n - TEN + 10).start, 10000)
        self.assert_error(TooLate, LATE, lambda: f(n - TEN + 9))
        self.assertEqual(n(n - TEN).start, 10000)
        self.assert_error(TooLate, LATE, lambda: n(n - TEN - 1))
        self.assertEqual(n(TEN - 1 - n).start, 10000)
        self.assert_error(TooLate, LATE, lambda: n(TEN - n))
        self.assert_error(TooLate, LATE, lambda: n(n - (TEN ** 6) ** 2))
        self.assert_error(TooLate, LATE, lambda: n((TEN ** 6) ** 2 - n))

    def test_late_places_that_do_no_harm(self):
        # f has a value at 9999 alone, and the places are even.
        f = when(same(n, TEN - 1), 5, UNDEFINED)
        self.assertEqual((f.start, f.pieces), (10000, (None,)))
        self.assertEqual(f(2 * (n // 720)), UNDEFINED)
        self.assertEqual(f(2 * n - 5 * TEN), UNDEFINED)
        self.assertEqual(f(5 * TEN - 2 * n), UNDEFINED)
        self.assertEqual(UNDEFINED((TEN ** 6) ** 2 - n), UNDEFINED)
        self.assert_error(TooLate, LATE, lambda: f(n // 7))
        self.assert_error(TooLate, LATE, lambda: f(5 * TEN + 1 - 2 * n))
        self.assert_error(TooLate, LATE, lambda: f(n // 7 + 1))
        # At a single place the host has another value; it is asked there at the n from 720 * k on, some of them late.
        for k in (11, 12, 13, 14, 15, 16, 400, 401):
            host = when(same(n, k), 5, 0)
            for guest, last in ((n // 720, 720 * k + 719), (when(less(n % 720, 600), n // 720, 0), 720 * k + 599)):
                if last < 10000:
                    self.assertEqual(host(guest).start, last + 1)
                else:
                    self.assert_error(TooLate, LATE, lambda: host(guest))
        # Odd places below 10000 have other values than those behind.
        g = when(less(n, TEN) & same(n % 2, 1), 5, 0)
        self.assertEqual((g.start, g.period), (10000, 1))
        self.assertEqual(g(2 * (n // 720) + 2 * (n % 720)), whole(0))
        self.assert_error(TooLate, LATE, lambda: g(2 * (n // 720) + n % 720))

    def test_integers_are_places(self):
        self.assertEqual((n * n)(7), 49)


class TestTotal(Twins):
    """Point [32]."""

    def test_the_examples(self):
        f = total(n // 2, n)
        self.assert_values(f, [0, 0, 0, 1, 2, 4, 6, 9])
        self.assertEqual((f.start, f.pieces), (0, (Piece((0, -2, 1), 4), Piece((1, -2, 1), 4))))
        f = total(2 * n + 2, n - 1)
        self.assert_values(f, [0, 0, 2, 6, 12])
        self.assertEqual((f.start, f.pieces), (0, (Piece((0, -1, 1)),)))
        f = total(n, 3 - n)
        self.assert_values(f, [3, 1, 0, 0, 0])
        self.assertEqual(f.start, 2)
        f = total(6 // (n - 2), n)
        self.assert_values(f, [0, -3, -9, None, None])
        self.assertEqual((f.start, f.pieces), (3, (None,)))
        self.assert_values(total(total(n, n), n), [0, 0, 0, 1, 4, 10])
        self.assertEqual(total(n ** 4 * n ** 4, 3), whole(257))
        self.assert_error(TooHigh, HIGH, total, n ** 4 * n ** 4, n)

    def test_values(self):
        summands = (lambda k: k.n, lambda k: 3, lambda k: k.n // 3 - 4, lambda k: k.n ** 3, lambda k: 6 // (k.n - 9),
                    lambda k: 40 // (k.n + 1), lambda k: k.n // (k.n % 4 - 3), lambda k: k.n // 0,
                    lambda k: k.n % 4 * k.n, lambda k: k.when(k.less(k.n, 8), 0 - k.n, k.n % 5))
        ends = (lambda k: k.n, lambda k: k.n - 9, lambda k: 30 - k.n, lambda k: k.n // 2, lambda k: 12,
                lambda k: 60 // (k.n - 2), lambda k: k.n % 5, lambda k: (k.n - 4) * (k.n - 9), lambda k: -k.n,
                lambda k: k.n // (k.n % 3))
        for f, g in itertools.product(summands, ends):
            self.assert_twins(lambda k: k.total(f(k), g(k)), 50, great=False)

    def test_values_of_any_size(self):
        self.assertEqual(total(n, n)(HUNDRED), HUNDRED * (HUNDRED - 1) // 2)
        self.assertEqual(total(n ** 3, n)(HUNDRED), (HUNDRED * (HUNDRED - 1) // 2) ** 2)
        self.assertEqual(total(1, n)(HUNDRED), HUNDRED)
        self.assertEqual(total(n, n)(TEN)(0), 49995000)
        self.assertEqual(total(1, (TEN ** 6) ** 4 + n)(5), 10 ** 96 + 5)

    def test_the_steps_are_the_summands(self):
        for f in (n * n - 7, n // 5, n % 6 * n, abs(n - 8), 6 // (n - 12), gcd(n, 12)):
            steps = total(f, n + 1) - total(f, n)
            for k in (*range(60), HUNDRED):
                if given(steps, k) is not None:
                    self.assertEqual(given(steps, k), given(f, k))

    def test_the_start_and_the_period_of_the_summands(self):
        for f in (n // 2, n * n // (n + 3), abs(n - 40), n % 12 - 40 // (n + 1), when(less(n, 10), 5, n % 7)):
            f = f - n % 3
            self.assertEqual((total(f, n).start, total(f, n).period), (f.start, f.period), f.text)

    def test_periods_may_be_other_ones_where_the_ends_are(self):
        self.assertEqual(total(n % 4, 4 * n), 6 * n)
        self.assertEqual(total(n % 4 - 1, 8 * n + 2), 4 * n - 1)

    def test_sums_that_come_to_0(self):
        f = total(n % 2 * 2 - 1, n)
        self.assertEqual((f, f.pieces), (-(n % 2), (Piece(()), Piece((-1,)))))
        self.assertEqual(total(n % 3 - 1, 3 * n), whole(0))

    def test_empty_sums(self):
        for f in (n, UNDEFINED, 6 // n, n % 720):
            for g in (0, -5, -n, 0 * n, -n * n):
                self.assertEqual(total(f, g), whole(0))
        self.assertEqual(total(UNDEFINED, n - 1).below, (0, 0))
        self.assertEqual(total(n, UNDEFINED), UNDEFINED)
        self.assertEqual(total(6 // n, n // n).undefined, Where.since(0))

    def test_integers_and_other_values(self):
        self.assertEqual(total(3, 4), whole(12))
        for wrong in NO_WHOLES:
            self.assert_error(BadWhole, {"value": wrong}, total, n, wrong)
            self.assert_error(BadWhole, {"value": wrong}, total, wrong, "later")

    def test_parts(self):
        self.assert_error(TooFine, FINE, total, n % 25, n % 36)
        self.assert_error(TooFine, FINE, total, n % 7, n // 104)
        self.assertEqual(total(n % 7, n // 102).period, 714)
        # Also where the sums are empty.
        self.assert_error(TooFine, FINE, total, n % 25, -1 - n % 36)

    def test_degrees_of_the_sums_alone(self):
        eight = n ** 4 * n ** 4
        self.assertEqual(total(eight, n % 4).pieces, (Piece(()), Piece(()), Piece((1,)), Piece((257,))))
        self.assertEqual(total(n ** 6 * n, n).pieces[0].degree, 8)
        self.assertEqual(total(eight, -n), whole(0))
        self.assert_error(TooHigh, HIGH, total, n ** 3, n ** 3)
        # The degree comes ahead of the start, the period ahead of the degree.
        self.assert_error(TooHigh, HIGH, total, eight, n - (TEN + 1))
        self.assert_error(TooFine, FINE, total, eight + n % 25, n % 36)

    def test_starts(self):
        self.assertEqual(total(1, n - TEN).start, 10000)
        self.assertEqual(total(n, n - TEN).start, 10000)
        self.assert_error(TooLate, LATE, total, 1, n - TEN - 1)
        # The piece k * (k + 1) / 2, with n - 10001 for k, is 0 at 10000 as well.
        self.assertEqual(total(n + 1, n - TEN - 1).start, 10000)
        self.assert_error(TooLate, LATE, total, n + 1, n - TEN - 2)
        self.assert_error(TooLate, LATE, total, 1, TEN + 1 - n)
        self.assertEqual(total(1, TEN - n).start, 10000)
        self.assertEqual(total(0, n - (TEN ** 6) ** 2), whole(0))
        self.assertEqual(total(0, (TEN ** 6) ** 2 - n), whole(0))


class TestCount(Twins):
    """Point [33]."""

    def test_the_examples(self):
        t = same(n % 3, 1)
        self.assert_values(count(t, n), [0, 0, 1, 1, 1, 2, 2, 2, 3])
        self.assertEqual(count(t, n), (n + 1) // 3)
        f = count(less(n, 3), n)
        self.assert_values(f, [0, 1, 2, 3, 3, 3])
        self.assertEqual(f.start, 3)
        f = count(less(6 // (n - 2), 0), n)
        self.assert_values(f, [0, 1, 2, None, None])
        self.assertEqual(f.pieces, (None,))

    def test_values(self):
        tests = (lambda k: k.less(k.n, 20), lambda k: k.same(k.n % 3, 1), lambda k: k.atmost(6 // (k.n - 14), 0),
                 lambda k: k.less(k.n % 6, k.n % 4), lambda k: k.same(k.n // (k.n % 4), 7), lambda k: k.same(k.n, -1),
                 lambda k: k.same(k.n // 0, 1))
        ends = (lambda k: k.n, lambda k: k.n - 9, lambda k: 30 - k.n, lambda k: k.n // 2, lambda k: 12,
                lambda k: 60 // (k.n - 2), lambda k: (k.n - 4) * (k.n - 9), lambda k: k.n // (k.n % 3))
        for t, g in itertools.product(tests, ends):
            self.assert_twins(lambda k: k.count(t(k), g(k)), 50, great=False)

    def test_values_of_any_size(self):
        t = less(n % 7, 3) & less(9, n)
        self.assertEqual(count(t, n)(7 * HUNDRED), 3 * HUNDRED - 6)
        self.assertEqual(count(~t, n)(7 * HUNDRED), 4 * HUNDRED + 6)

    def test_integers_and_other_values(self):
        self.assertEqual(count(less(n, 5), 1000), whole(5))
        for wrong in NO_WHOLES:
            self.assert_error(BadWhole, {"value": wrong}, count, less(n, 5), wrong)

    def test_parts(self):
        self.assert_error(TooFine, FINE, count, same(n % 25, 0), n % 36)
        # Both sets of the test count, also if it never holds.
        t = less(6 // (n % 25), -7)
        self.assertEqual((t.holds.period, t.fails.period), (1, 25))
        self.assert_error(TooFine, FINE, count, t, n % 36)
        # The third part is told by the period of the set holds alone.
        self.assertEqual(count(t, n // 7).period, 1)
        self.assert_error(TooFine, FINE, count, same(n % 7, 0), n // 104)
        self.assertEqual(count(same(n % 7, 0), n // 102).period, 714)

    def test_starts(self):
        self.assertEqual(count(same(n, n), n - TEN).start, 10000)
        self.assert_error(TooLate, LATE, count, same(n, n), n - TEN - 1)
        self.assertEqual(count(less(n, TEN), n).start, 10000)
        self.assertEqual(count(less(n, TEN), n)(HUNDRED), 10000)
        # The places go from -1 to 4 behind 10000, and the counts from 0 to 3.
        self.assert_error(TooLate, LATE, count, less(n, 3), 5 * (n - 2 * TEN) - 1)
        self.assert_error(TooLate, LATE, count, less(n, 3), 5 * (2 * TEN - n) - 1)
        self.assertEqual(count(less(n, 3), 5 * (n - TEN + 1) - 1).start, 10000)


class TestPlace(Twins):
    """Point [34]."""

    def test_the_examples(self):
        self.assertEqual(place(same(n % 3, 1), n), 3 * n + 1)
        f = place(less(n, 3), n)
        self.assert_values(f, [0, 1, 2, None, None])
        f = place(less(6 // (n - 2), 0), n)
        self.assert_values(f, [0, 1, None, None])
        f = place(~same(n % 4, 2), n)
        self.assert_values(f, [0, 1, 3, 4, 5, 7, 8])
        self.assertEqual((f.period, f.pieces), (3, (Piece((0, 4), 3), Piece((-1, 4), 3), Piece((1, 4), 3))))

    def test_values(self):
        tests = (lambda k: k.less(k.n, 20), lambda k: k.same(k.n % 3, 1), lambda k: k.atmost(6 // (k.n - 14), 0),
                 lambda k: k.less(k.n % 6, k.n % 4), lambda k: k.same(k.n // (k.n % 4), 7), lambda k: k.same(k.n, -1),
                 lambda k: k.same(k.n // 0, 1), lambda k: k.less(9, k.n), lambda k: k.less(k.n - 1, 5 * (k.n % 7)),
                 lambda k: k.same(k.n, 2) | k.less(9, k.n) & k.less(k.n % 7, 3))
        numbers = (lambda k: k.n, lambda k: k.n - 9, lambda k: 30 - k.n, lambda k: k.n // 2, lambda k: 12 + 0 * k.n,
                   lambda k: 60 // (k.n - 2), lambda k: (k.n - 4) * (k.n - 9), lambda k: k.n // (k.n % 3))
        for t, g in itertools.product(tests, numbers):
            self.assert_twins(lambda k: k.place(t(k), g(k)), 32, great=False)

    def test_values_of_any_size(self):
        w = Where.rest(3, 1) - Where.of([4, 10])
        t = same(n % 3, 1) & ~same(n, 4) & ~same(n, 10)
        self.assertEqual(t.holds, w)
        for k in (0, 1, 2, 3, 10 ** 30, HUNDRED):
            self.assertEqual(place(t, n)(k), w.member(k))

    def test_counted_back(self):
        for t in (same(n % 3, 1), less(n % 6, n % 4), less(n, 9), less(6 // (n - 9), 3), ~same(n % 4, 2)):
            f = count(t, place(t, n))
            for k in (*range(60), HUNDRED):
                self.assertIn(given(f, k), (k, None))
            self.assertEqual(f.undefined, place(t, n).undefined)

    def test_integers_and_other_values(self):
        self.assertEqual(place(less(5, n), 1000), whole(1000) + 6)
        self.assertEqual(place(less(5, n), -1), UNDEFINED)
        for wrong in NO_WHOLES:
            self.assert_error(BadWhole, {"value": wrong}, place, less(n, 5), wrong)

    def test_parts(self):
        # The test is not one of them, but the rests by the number of its members in a period are.
        self.assertEqual(place(same(n % 25, 0), n % 36), n % 36 * 25)
        self.assertEqual(place(less(n % 25, 7), n // 102).period, 714)
        self.assert_error(TooFine, FINE, place, less(n % 25, 7), n // 104)
        self.assertEqual(place(same(n % 25, 7), n // 104), n // 104 * 25 + 7)
        self.assertEqual(place(less(n, 7), n // 720).period, 1)
        self.assertEqual(place(less(n, 7), n // 720).start, 5040)
        # Also if it tells nothing, because the test is undefined at 0.
        self.assert_error(TooFine, FINE, place, less(n % 25, 7) & less(0 // n, 1) | less(0 // n, 0), n // 104)

    def test_starts(self):
        self.assertEqual(place(same(n, n), n - TEN).start, 10000)
        self.assert_error(TooLate, LATE, place, same(n, n), n - TEN - 1)
        self.assertEqual(place(less(n, TEN), n).start, 10000)
        self.assert_error(TooLate, LATE, place, less(n, TEN), n - 1)


class TestByData(Twins):
    """Points [36] and [37]."""

    def test_the_examples(self):
        self.assertEqual(by_data([], [Piece((0, 1), 2), Piece((-1, 1), 2)]), n // 2)
        self.assertEqual(by_data([0, 1, 2, 7], [Piece((0, 1))]).start, 4)
        f = by_data([0, 1, 2], [Piece((0, 1)), Piece((0, 1))])
        self.assertEqual((f, f.start, f.period), (n, 0, 1))
        self.assert_error(BadPiece, {"index": 0}, by_data, [], [Piece((0, 1), 2)])
        f = by_data([], [Piece((0, 1), 2), None])
        self.assertEqual((f.undefined, f(8)), (Where.rest(2, 1), 4))

    def test_values(self):
        f = by_data((5, None, -7, 10 ** 200), (Piece((1, 1)), None, Piece((-2, 1), 3)))
        self.assert_values(f, [5, None, -7, 10 ** 200, None, 1, 7, None, 2, 10])
        self.assertEqual(f(3 * HUNDRED + 2), HUNDRED)
        self.assertEqual(f(3 * HUNDRED), 3 * HUNDRED + 1)

    def test_places_in_the_row_are_told_by_n(self):
        self.assert_values(by_data([7], [Piece((1,)), Piece((2,)), Piece((3,))]), [7, 2, 3, 1, 2, 3])

    def test_no_pieces(self):
        for nothing in ([], ()):
            self.assert_error(NoPieces, {}, by_data, [1, 2], nothing)

    def test_pieces_that_are_not_whole(self):
        good, half = Piece((0, 1, 1), 2), Piece((1,), 2)
        self.assert_error(BadPiece, {"index": 1}, by_data, [], [good, half, half])
        self.assert_error(BadPiece, {"index": 2}, by_data, [1] * 9, [good, None, Piece((0, 1), 3), half])
        self.assert_error(BadPiece, {"index": 0}, by_data, [0], [Piece((1, 1), 2), Piece((0, 1), 2)])
        # Whole at the n with its rest, and nowhere else.
        self.assertEqual(by_data([], [Piece((0, 1), 3), Piece((-1, 1), 3), Piece((-2, 1), 3)]), n // 3)
        # A piece of degree 9 that is no whole number comes ahead of the degree.
        self.assert_error(BadPiece, {"index": 1}, by_data, [], [Piece((0,) * 9 + (1,)), half])

    def test_data_that_are_longer_than_needed(self):
        f = by_data([k // 3 for k in range(20000)], [Piece((-(r % 3), 1), 3) for r in range(1500)])
        self.assertEqual((f, f.start, f.period, f.text), (n // 3, 0, 3, "given(; 0 1/3, -1/3 1/3, -2/3 1/3)"))

    def test_periods(self):
        pieces = [Piece((r,)) for r in range(720)]
        self.assertEqual(by_data([], pieces), n % 720)
        self.assertEqual(by_data([], pieces * 3), n % 720)
        self.assert_error(TooFine, FINE, by_data, [], pieces + [Piece((720,))])
        self.assert_error(TooFine, FINE, by_data, [], [None] * 720 + [Piece((1,))])

    def test_starts(self):
        self.assertEqual(by_data([7] * 10000, [Piece((1,))]).start, 10000)
        self.assertEqual(by_data([7] * 10000 + [1, 1], [Piece((1,))]).start, 10000)
        self.assert_error(TooLate, LATE, by_data, [1] * 10000 + [7], [Piece((1,))])
        self.assert_error(TooLate, LATE, by_data, [1] * 10000 + [None], [Piece((1,))])

    def test_degrees(self):
        self.assertEqual(by_data([], [Piece((0,) * 8 + (1,))]), n ** 4 * n ** 4)
        self.assert_error(TooHigh, HIGH, by_data, [], [Piece((0,) * 9 + (1,))])
        self.assert_error(TooHigh, HIGH, by_data, [], [None, Piece((0,) * 9 + (1,))])

    def test_which_bound_is_told(self):
        high = [Piece((0,) * 9 + (1,))]
        many = [Piece((r,)) for r in range(720)]
        self.assert_error(TooHigh, HIGH, by_data, [5] * 10001, many + high)
        self.assert_error(TooFine, FINE, by_data, [5] * 10001, many + [None])

    def test_arguments_are_copied(self):
        below, pieces = [5, None], [Piece((1, 1)), None]
        f = by_data(below, pieces)
        below.clear()
        pieces.clear()
        self.assertEqual(f, by_data((5, None), (Piece((1, 1)), None)))

    def test_each_formula_is_told_by_its_data(self):
        for f in (n, whole(-3), UNDEFINED, 6 // (n - 3), n ** 3 % (2 * n), n * n // 8, gcd(n, 12), abs(n - 30),
                  total(n // 2, n), place(~same(n % 4, 2), n), n // (n % 5)):
            g = by_data(f.below, f.pieces)
            self.assertEqual((g, g.below, g.pieces), (f, f.below, f.pieces))
