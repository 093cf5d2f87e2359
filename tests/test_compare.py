"""Points [25] to [27], and [20] for tests: comparisons, tests of tests, and choices."""

import itertools

from everyfloor.compare import Test, atmost, less, same, when
from everyfloor.errors import BadPlace, BadWhole, TooFine, TooLate, Undefined
from everyfloor.formulas import gcd, unknown, whole
from everyfloor.pieces import Piece
from everyfloor.wheres import Where
from tests.checks import NO_INTEGERS
from tests.twins import FINE, HUNDRED, LATE, NO_WHOLES, TEN, UNDEFINED, Twins

n = unknown()
PAIRS = (
    (lambda k: k.n, lambda k: 40), (lambda k: k.n * k.n - 30 * k.n, lambda k: 5 * k.n - 40),
    (lambda k: k.n % 6, lambda k: k.n % 4), (lambda k: 6 // (k.n - 3), lambda k: k.n % 3),
    (lambda k: k.n // 3, lambda k: k.n - 2 * (k.n // 3)), (lambda k: 7, lambda k: k.n // (k.n % 3)),
    (lambda k: (k.n * k.n + 7) % (k.n + 3), lambda k: 0), (lambda k: k.n // 2 * 2, lambda k: k.n - k.n % 2),
    (lambda k: k.n * 3 - 100, lambda k: 0), (lambda k: k.n // 0 + k.n, lambda k: 1))


class TestComparisons(Twins):

    def test_values(self):
        for f, g in PAIRS:
            for first, second in ((f, g), (g, f)):
                self.assert_test_twins(lambda k: k.less(first(k), second(k)))
                self.assert_test_twins(lambda k: k.atmost(first(k), second(k)))
                self.assert_test_twins(lambda k: k.same(first(k), second(k)))

    def test_integers_in_the_place_of_formulas(self):
        self.assertEqual((less(3, 4).holds, less(4, 4).fails, atmost(4, 4).holds, same(4, 5).fails),
                         (Where.since(0),) * 4)
        self.assertEqual((less(5, n).holds, less(n, 5).fails), (Where.since(6), Where.since(5)))
        self.assertEqual(same(n, -1000).fails, Where.since(0))
        self.assertEqual(atmost(1000, n).holds, Where.since(1000))

    def test_other_values(self):
        for compare in (less, atmost, same):
            for wrong in NO_WHOLES:
                self.assert_error(BadWhole, {"value": wrong}, compare, n, wrong)
                self.assert_error(BadWhole, {"value": wrong}, compare, wrong, "later")

    def test_it_is_undefined_where_a_part_is(self):
        t = less(6 // (n - 3), n // (n - 5))
        self.assertEqual(~(t.holds | t.fails), Where.of([3, 5]))
        for t in (less(UNDEFINED, 1), atmost(1, UNDEFINED), same(UNDEFINED, UNDEFINED)):
            self.assertEqual((t.holds, t.fails), (Where.of([]), Where.of([])))

    def test_values_of_any_size(self):
        t = same(n * n % 9, 0)
        self.assertIs(t(3 * HUNDRED), True)
        self.assertIs(t(3 * HUNDRED + 1), False)

    def test_wrong_places(self):
        for wrong in NO_INTEGERS + (-1, n, Piece((1,)), same(n, 1)):
            self.assert_error(BadPlace, {"n": wrong}, less(n, 5), wrong)
            self.assert_error(BadPlace, {"n": wrong}, less(n, UNDEFINED), wrong)

    def test_places_where_it_is_undefined(self):
        t = less(6 // (n % 3), 5)
        for k in (0, 3, 3 * HUNDRED):
            self.assert_error(Undefined, {"n": k}, t, k)
        self.assert_error(Undefined, {"n": 2}, same(UNDEFINED, 1), 2)

    def test_equality_is_by_holds_and_fails(self):
        self.assertTrue(less(n, 5) == atmost(n, 4))
        self.assertTrue(less(n, 5) != less(n, 6))
        self.assertTrue(same(n, n) == less(0, n + 1))
        self.assertFalse(same(0 // n, 0) == same(n, n))
        self.assertTrue(same(0 // n, 0) == ~less(0, 0 // n))
        self.assertFalse(less(n, 5) == Where.of([0, 1, 2, 3, 4]))
        self.assertFalse(less(n, 5) == n)
        self.assertFalse(same(n, n) == True)  # noqa: E712

    def test_least_periods_and_starts(self):
        t = less(n % 6, 3) | ~less(n % 3, 3)
        self.assertEqual((t.holds.period, t.fails.period), (6, 6))
        t = same(n % 6 % 2, 0)
        self.assertEqual((t.holds.period, t.holds.start), (2, 0))
        self.assertEqual(less(n * n // (n + 3), n).holds, Where.since(1))

    def test_periods_of_the_parts(self):
        self.assertEqual(less(n % 16, n % 45).holds.period, 720)
        for compare in (less, atmost, same):
            self.assert_error(TooFine, FINE, compare, n % 25, n % 36)
            self.assert_error(TooFine, FINE, compare, n % 720, n % 7)

    def test_starts(self):
        self.assertEqual(less(n, TEN).holds.start, 10000)
        self.assertEqual(atmost(n, TEN - 1).fails.start, 10000)
        self.assertEqual(same(n, TEN - 1).holds.start, 10000)
        self.assertEqual(atmost(TEN, n).holds.start, 10000)
        self.assertEqual(less(TEN - 1, n).holds.start, 10000)
        self.assertEqual(same(TEN - 1, n).fails.start, 10000)
        for make in (lambda: less(n, TEN + 1), lambda: less(TEN, n), lambda: atmost(n, TEN), lambda: same(n, TEN),
                     lambda: atmost(TEN + 1, n), lambda: same(TEN, n),
                     lambda: same(n * n, (TEN ** 5) ** 4), lambda: less(n, (TEN ** 5) ** 4)):
            self.assert_error(TooLate, LATE, make)
        # The gap is never 0, although its sign changes behind 10000.
        self.assertEqual(same(2 * n, 5 * TEN + 1).fails, Where.since(0))
        self.assertEqual(less(-((n - 5 * TEN) ** 2), 1).holds, Where.since(0))
        self.assert_error(TooLate, LATE, less, -((n - 5 * TEN) ** 2), 0)
        self.assert_error(TooFine, FINE, less, n % 25 + TEN + 1, n % 36 + n)


class TestTestsOfTests(Twins):

    def test_values(self):
        tests = [lambda k: k.less(k.n, 20), lambda k: k.same(k.n % 3, 1), lambda k: k.atmost(6 // (k.n - 4), 0),
                 lambda k: k.same(k.n // (k.n % 2), 7)]
        for t in tests:
            self.assert_test_twins(lambda k: ~t(k))
            self.assert_test_twins(lambda k: ~~t(k))
        for t, u in itertools.product(tests, repeat=2):
            self.assert_test_twins(lambda k: t(k) & u(k))
            self.assert_test_twins(lambda k: t(k) | u(k))
            self.assert_test_twins(lambda k: ~(t(k) & ~u(k)) | u(k))

    def test_what_is_undefined(self):
        t, hole = same(n % 2, 0), less(6 // (n - 3), n + 10)
        self.assertEqual((t & hole)(3), False)
        self.assert_error(Undefined, {"n": 3}, hole & t, 3)
        self.assert_error(Undefined, {"n": 3}, t | hole, 3)
        self.assertEqual((~t | hole)(3), True)
        self.assert_error(Undefined, {"n": 3}, ~hole, 3)
        nowhere = same(UNDEFINED, 1)
        self.assertEqual((t & nowhere).fails, Where.rest(2, 1))
        self.assertEqual((t & nowhere).holds, Where.of([]))

    def test_kinds(self):
        for t in (less(n, 5), ~less(n, 5), less(n, 5) & same(n, 3), less(n, 5) | same(n, 3)):
            self.assertIs(type(t), Test)

    def test_periods_of_the_parts(self):
        one, other = same(n % 25, 0), same(n % 36, 0)
        self.assertEqual((one.holds.period, other.fails.period), (25, 36))
        for make in (lambda: one & other, lambda: one | other):
            self.assert_error(TooFine, FINE, make)
        # Both sets of a test count: of this one the set holds is empty.
        t = less(6 // (n % 25), -7)
        self.assertEqual((t.holds.period, t.fails.period), (1, 25))
        self.assert_error(TooFine, FINE, lambda: t & other)
        self.assert_error(TooFine, FINE, lambda: other | t)
        self.assertEqual((same(n % 16, 0) & same(n % 45, 0)).holds, Where.rest(720, 0))

    def test_other_values(self):
        for wrong in (5, None, n):
            with self.assertRaises(TypeError):
                less(n, 5) & wrong
            with self.assertRaises(TypeError):
                less(n, 5) | wrong


class TestWhen(Twins):

    def test_values(self):
        for t in (lambda k: k.less(k.n, 20), lambda k: k.same(k.n % 3, 1), lambda k: k.atmost(6 // (k.n - 4), 0)):
            for f, g in PAIRS:
                self.assert_twins(lambda k: k.when(t(k), f(k), g(k)), 100)
        self.assert_twins(lambda k: k.when(k.less(k.n, 5), k.n, 2 * k.n - 4))

    def test_the_other_one_is_not_looked_at(self):
        f = when(same(n, 0), 0, 5 // n)
        self.assertEqual(f.undefined, Where.of([]))
        self.assert_values(f, [0, 5, 2, 1, 1, 1, 0, 0])
        self.assertEqual(when(same(n % 2, 0), 1, UNDEFINED).undefined, Where.rest(2, 1))
        self.assertEqual(when(same(n, n), n, UNDEFINED), n)
        self.assertEqual(when(less(n, 0), UNDEFINED, n), n)

    def test_it_is_undefined_where_the_test_is(self):
        f = when(less(6 // (n - 3), 2), 1, 2)
        self.assertEqual(f.undefined, Where.of([3]))
        self.assertEqual(when(same(UNDEFINED, 1), 1, 2), UNDEFINED)

    def test_integers_and_other_values(self):
        self.assertEqual(when(less(n, 3), -1000, 1000).below, (-1000,) * 3)
        for wrong in NO_WHOLES:
            self.assert_error(BadWhole, {"value": wrong}, when, less(n, 3), n, wrong)
            self.assert_error(BadWhole, {"value": wrong}, when, less(n, 3), wrong, "later")

    def test_parts(self):
        t = same(n % 25, 0)
        self.assert_error(TooFine, FINE, when, t, n % 36, 1)
        self.assert_error(TooFine, FINE, when, t, 1, n % 36)
        # Also where the other one is looked at for no n, and the test holds everywhere.
        self.assert_error(TooFine, FINE, when, same(n, n), n % 25, n % 36)
        self.assert_error(TooFine, FINE, when, less(6 // (n % 25), -7), n, n % 36)
        self.assertEqual(when(same(n % 16, 3), n % 45, n).period, 720)

    def test_it_follows_the_chosen_one(self):
        f, g = n * n // (n + 3), gcd(n, 6)
        for t in (less(9, n), ~less(n, 50), less(0, 1)):
            self.assertEqual(when(t, f, g).pieces, f.pieces)
            self.assertEqual(when(t, g, f).pieces, g.pieces)

    def test_starts(self):
        self.assertEqual(when(less(n, TEN), 1, 2).start, 10000)
        self.assertEqual(when(less(n, TEN), n, when(less(n, 10), 3, n)), n)
        self.assertEqual(when(less(n, 7), n - 3, n * n // (n + 3)).start, 0)
        self.assertEqual(when(same(n % 2, 0), 0, 0).period, 1)
        self.assertEqual(whole(1), when(less(n, TEN), 1, 1))
