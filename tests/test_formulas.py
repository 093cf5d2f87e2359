"""Points [17] to [24]: formulas, their pieces and their bounds, and arithmetic with them."""

import itertools
import math
import random

from everyfloor.compare import less, same, when
from everyfloor.errors import BadPlace, BadPower, BadWhole, TooFine, TooHigh, TooLate, Undefined
from everyfloor.formulas import Formula, gcd, greatest, least, unknown, whole
from everyfloor.pieces import Piece
from everyfloor.wheres import Where
from everyfloor.within import by_data
from tests.checks import NO_INTEGERS
from tests.twins import (
    FINE, FORMULAS, HIGH, HUNDRED, LATE, NO_WHOLES, PLAIN, TEN, UNDEFINED, Twins, given)

n = unknown()


class TestExamples(Twins):
    """The examples by hand in [19] and [28]."""

    def test_a_square_by_the_next(self):
        f = n * n // (n + 1)
        self.assertEqual((f.period, f.start, f.below, f.pieces), (1, 1, (0,), (Piece((-1, 1)),)))

    def test_n_by_n_less_3(self):
        f = n // (n - 3)
        self.assert_values(f, [0, -1, -2, None, 4, 2, 2, 1, 1, 1])
        self.assertEqual((f.start, f.pieces), (7, (Piece((1,)),)))

    def test_a_square_less_5_by_n(self):
        f = (n * n - 5) // n
        self.assertEqual((f.start, f.pieces, f(5), f(4)), (5, (Piece((-1, 1)),), 4, 2))

    def test_a_cube_by_2_n(self):
        f = n ** 3 % (2 * n)
        self.assertEqual((f.period, f.start, f.below), (2, 1, (None,)))
        self.assertEqual(f.pieces, (Piece(()), Piece((0, 1))))
        self.assertEqual(f.undefined, Where.of([0]))

    def test_a_square_by_n_and_3(self):
        f = n * n // (n + 3)
        self.assertEqual((f.start, f.pieces, f(6)), (7, (Piece((-3, 1)),), 4))

    def test_abs(self):
        f = abs(n - 5)
        self.assertEqual((f.start, f.below, f.pieces), (5, (5, 4, 3, 2, 1), (Piece((-5, 1)),)))

    def test_gcd(self):
        f = gcd(n * n + 1, n + 1)
        self.assertEqual((f.start, f.pieces), (0, (Piece((1,)), Piece((2,)))))
        self.assert_error(TooFine, FINE, gcd, n * n + 1, 721)

    def test_choice(self):
        f = when(less(n, 5), n, 2 * n - 4)
        self.assert_values(f, [0, 1, 2, 3, 4, 6, 8])
        self.assertEqual(f.start, 4)

    def test_rests_of_negatives(self):
        f = (-n) % (n + 1)
        self.assertEqual((f.start, f.pieces, f(2)), (1, (Piece((1,)),), 1))
        g = n % -3
        self.assert_values(g, [0, -2, -1, 0, -2, -1])
        self.assertEqual((g.period, g.start), (3, 0))

    def test_a_rest_that_is_0_at_few_n(self):
        self.assertEqual(same((n * n + 7) % (n + 3), 0).holds, Where.of([1, 5, 13]))


class TestMakers(Twins):

    def test_the_unknown(self):
        self.assertIsInstance(n, Formula)
        self.assertEqual((n.period, n.start, n.below, n.pieces, n.undefined, n.text),
                         (1, 0, (), (Piece((0, 1)),), Where.of([]), "n"))

    def test_integers(self):
        for c in (-1000, -999, -1, 0, 1, 7, 999, 1000):
            f = whole(c)
            self.assertEqual((f.period, f.start, f.pieces, f.text), (1, 0, (Piece((c,)),), str(c)))
            self.assertEqual(f(HUNDRED), c)

    def test_what_is_no_such_integer(self):
        for wrong in NO_WHOLES:
            self.assert_error(BadWhole, {"value": wrong}, whole, wrong)
        self.assert_error(BadWhole, {"value": n}, whole, n)


class TestArithmetic(Twins):

    def test_sums_differences_and_products(self):
        for expression in (
                lambda k: k.n + k.n, lambda k: k.n - 3 * k.n, lambda k: k.n * k.n - k.n // 2, lambda k: 7 - k.n,
                lambda k: 5 + k.n % 3, lambda k: -1000 * k.n + 1000, lambda k: (k.n % 4) * (k.n // 6),
                lambda k: 6 // (k.n - 3) + 6 // (k.n - 5), lambda k: k.n // 2 + k.n % 2 - k.n,
                lambda k: k.n // 2 * 2 + k.n % 2, lambda k: (k.n % 2 - 1) * (k.n ** 3 - 20 * k.n),
                lambda k: -(k.n // 3), lambda k: - k.n + 0 * k.n // k.n, lambda k: (k.n - 3) * (k.n - 3) - 9):
            self.assert_twins(expression)

    def test_quotients_and_rests(self):
        for expression in (
                lambda k: k.n // 7, lambda k: k.n % 7, lambda k: k.n // -7, lambda k: k.n % -7,
                lambda k: (3 - 5 * k.n) // 4, lambda k: (3 - 5 * k.n) % 4, lambda k: k.n * k.n // 12,
                lambda k: k.n ** 3 % 18, lambda k: k.n ** 3 // (k.n + 2), lambda k: k.n ** 3 % (k.n + 2),
                lambda k: (k.n - 20) ** 3 // (k.n - 9), lambda k: (k.n - 20) ** 3 % (k.n - 9),
                lambda k: k.n // (4 - k.n), lambda k: k.n % (4 - k.n), lambda k: 30 // k.n, lambda k: 30 % k.n,
                lambda k: -30 // (k.n - 7), lambda k: -30 % (k.n - 7), lambda k: (k.n ** 2 + k.n) // (2 * k.n + 1),
                lambda k: (k.n ** 2 + k.n) % (2 * k.n + 1), lambda k: k.n ** 4 // (3 * k.n * k.n - 50),
                lambda k: k.n ** 4 % (3 * k.n * k.n - 50), lambda k: (k.n // 3) // (k.n % 4 - 1),
                lambda k: (k.n // 3) % (k.n % 4 - 1), lambda k: (k.n // 3) * k.n // (5 - k.n // 2),
                lambda k: k.n * (k.n - 5) // (k.n - 5), lambda k: k.n * (k.n - 5) % (k.n - 5),
                lambda k: (k.n * k.n // 2) % (k.n // 3 + 1), lambda k: 0 % (k.n - 2), lambda k: 0 // (k.n - 2)):
            self.assert_twins(expression)

    def test_small_quotients(self):
        for a, b, c, d in itertools.product((-3, 0, 2), (-1, 1, 5), (-2, 0, 3), (-4, 1)):
            self.assert_twins(lambda k: (a * k.n * k.n + b * k.n + 2) // (c * k.n + d), 60)
            self.assert_twins(lambda k: (a * k.n * k.n + b * k.n + 2) % (c * k.n + d), 60)

    def test_divisors_that_are_0(self):
        # At some n, at all n, and at a whole rest.
        self.assertEqual((5 // (n * n - 9 * n)).undefined, Where.of([0, 9]))
        for f in (n // 0, n % 0, n // (n - n), 0 % whole(0), UNDEFINED):
            self.assertEqual((f.period, f.start, f.pieces, f.undefined), (1, 0, (None,), Where.since(0)))
        for f in (n // (n % 3), n % (n % 3)):
            self.assertEqual(f.undefined, Where.rest(3, 0))
            self.assertEqual([piece is None for piece in f.pieces], [True, False, False] * 2)

    def test_what_is_undefined_stays_so(self):
        hole = 6 // (n - 3)
        for f in (hole + 1, 1 - hole, hole * 0, 0 * hole, 0 // hole, hole // 5, hole % 5, -hole, abs(hole), hole ** 0,
                  hole ** 2, gcd(hole, 0), least(n, hole), greatest(hole, n)):
            self.assertIn(3, f.undefined, f.text)
            self.assertNotIn(4, f.undefined, f.text)
        for f in (UNDEFINED + n, n * UNDEFINED, UNDEFINED ** 0, abs(UNDEFINED), gcd(UNDEFINED, UNDEFINED)):
            self.assertEqual((f.pieces, f.below), ((None,), ()))

    def test_quotient_and_rest_go_together(self):
        for f, g in itertools.product((n, n ** 3 - 50 * n, n // 4, -n * n + 7, n % 5), repeat=2):
            self.assertEqual(f // g * g + f % g, when(same(g, 0), UNDEFINED, f))

    def test_powers(self):
        for power in range(7):
            self.assert_twins(lambda k: (k.n % 3 - 1) ** power)
            self.assert_twins(lambda k: (5 // (k.n - 4)) ** power)
        self.assertEqual(n ** 0, whole(1))
        self.assertEqual((n ** 6).pieces, (Piece((0,) * 6 + (1,)),))
        self.assertEqual(whole(0) ** 0, whole(1))

    def test_wrong_powers(self):
        for wrong in NO_INTEGERS + (-1, 7, 8, HUNDRED, n, Piece((1,))):
            self.assert_error(BadPower, {"k": wrong}, lambda: n ** wrong)
            self.assert_error(BadPower, {"k": wrong}, lambda: UNDEFINED ** wrong)

    def test_abs(self):
        for expression in (lambda k: abs(k.n - 20), lambda k: abs(20 - k.n), lambda k: abs(k.n % 5 - 2),
                           lambda k: abs((k.n - 4) * (k.n - 9) * (k.n - 30)), lambda k: abs(k.n // -3),
                           lambda k: abs(6 // (3 - k.n)), lambda k: abs(0 * k.n)):
            self.assert_twins(expression)

    def test_greatest_and_least(self):
        for first, second in itertools.product((lambda k: k.n, lambda k: 40 - k.n, lambda k: (k.n - 20) ** 2,
                                                lambda k: 5, lambda k: k.n % 4 * k.n // 2, lambda k: 9 // (k.n - 2)),
                                               repeat=2):
            self.assert_twins(lambda k: k.least(first(k), second(k)), 120)
            self.assert_twins(lambda k: k.greatest(first(k), second(k)), 120)
        f, g = n * n - 30, 5 * n
        self.assertEqual(least(f, g) + greatest(f, g), f + g)

    def test_integers_on_either_side(self):
        for c in (-1000, -7, 0, 3, 1000):
            for f in (n, n - 5, n % 4):
                self.assertEqual((c + f, c - f, c * f, c // f, c % f),
                                 (whole(c) + f, whole(c) - f, whole(c) * f, whole(c) // f, whole(c) % f))
                self.assertEqual((f + c, f - c, f * c, f * c // 8, f // 7, f % 7),
                                 (f + whole(c), f - whole(c), f * whole(c), f * c // whole(8), f // whole(7),
                                  f % whole(7)))
                self.assertEqual(least(c, f), least(whole(c), f))
                self.assertEqual(greatest(f, c), greatest(f, whole(c)))
        self.assertEqual((gcd(12, 18), least(4, 9), greatest(4, 9)), (whole(6), whole(4), whole(9)))

    def test_other_values_on_the_right_side(self):
        for wrong in NO_WHOLES:
            for make in (lambda: n + wrong, lambda: n - wrong, lambda: n * wrong, lambda: n // wrong,
                         lambda: n % wrong, lambda: gcd(n, wrong), lambda: least(n, wrong),
                         lambda: greatest(n, wrong), lambda: gcd(wrong, n), lambda: least(wrong, n),
                         lambda: greatest(wrong, n), lambda: gcd(wrong, "later"), lambda: least(wrong, "later"),
                         lambda: greatest(wrong, "later")):
                self.assert_error(BadWhole, {"value": wrong}, make)

    def test_integers_on_the_left_side_that_are_too_great(self):
        for wrong in (-1001, 1001, HUNDRED):
            for make in (lambda: wrong + n, lambda: wrong - n, lambda: wrong * n, lambda: wrong // n,
                         lambda: wrong % n):
                self.assert_error(BadWhole, {"value": wrong}, make)

    def test_random_formulas(self):
        for seed in range(60):
            self.check_random(random.Random(seed))

    def check_random(self, rnd):
        """Formulas of formulas, as they come; what is refused is left out."""
        pool = [(FORMULAS.n, PLAIN.n)]
        while len(pool) < 14:
            one, other, c = rnd.choice(pool), rnd.choice(pool), rnd.randint(-9, 9)
            make = rnd.choice((
                lambda f, g: f + g, lambda f, g: f - c * g, lambda f, g: f * g, lambda f, g: f // g,
                lambda f, g: f % g, lambda f, g: f % (g + c), lambda f, g: f // (c * g + 5), lambda f, g: abs(f + c),
                lambda f, g: f % 6 - c, lambda f, g: f // 4 + c, lambda f, g: f(g), lambda f, g: g(f + c)))
            try:
                f = make(one[0], other[0])
            except (TooFine, TooHigh, TooLate):
                continue
            plain = make(one[1], other[1])
            for k in (*range(80), *range(HUNDRED, HUNDRED + 9)):
                self.assertEqual(given(f, k), plain(k), (f.text, k))
            self.assert_least(f)
            pool.append((f, plain))


class TestGcd(Twins):

    def test_values(self):
        for expression in (
                lambda k: k.gcd(k.n, 12), lambda k: k.gcd(12, k.n), lambda k: k.gcd(k.n, 0), lambda k: k.gcd(0, 0),
                lambda k: k.gcd(-k.n, 0), lambda k: k.gcd(0, 9 - k.n), lambda k: k.gcd(k.n * k.n, 6 * k.n),
                lambda k: k.gcd(k.n * k.n + 1, k.n + 1), lambda k: k.gcd(k.n + 6, k.n), lambda k: k.gcd(-8, -12),
                lambda k: k.gcd(k.n ** 3 - k.n, k.n * k.n - 1), lambda k: k.gcd(k.n // 2, k.n % 6),
                lambda k: k.gcd(5 // (k.n - 2), k.n - 4), lambda k: k.gcd(k.n * k.n - 25, 3 * k.n - 15),
                lambda k: k.gcd(6 * k.n + 4, 4 * k.n - 2), lambda k: k.gcd(k.n // 3 - 5, 10 - k.n // 2)):
            self.assert_twins(expression)

    def test_great_constants(self):
        big = whole(1000) ** 6 + 12
        self.assertEqual(gcd(big, big * 35 + 28), whole(4))

    def test_it_follows_its_pieces_where_the_steps_do_not_yet(self):
        # The first rest is 6 from n = 20007 on alone.
        f = gcd(n - 2 * TEN + 6, n - 2 * TEN)
        self.assertEqual((f.period, f.start), (6, 0))
        self.assertEqual([f(k) for k in range(8)], [math.gcd(k - 20000, 6) for k in range(8)])

    def test_starts(self):
        self.assertEqual(gcd(n - TEN, 0).start, 10000)
        self.assert_error(TooLate, LATE, gcd, 0, n - TEN - 1)

    def test_the_bound_of_the_way(self):
        self.assertEqual(gcd(n, 720).period, 720)
        self.assertEqual(gcd(n * n, 1000).period, 100)
        self.assert_error(TooFine, FINE, gcd, n, 721)
        # The greatest common divisor is 1 everywhere, but the way to it needs the rests by 727.
        self.assert_error(TooFine, FINE, gcd, n * n + 1, 727)
        self.assertEqual(gcd(1000 * n + 1, 1000), whole(1))

    def test_periods_of_several_steps_go_together(self):
        # At even n the rests by 16 come round behind 8 steps of 2, at odd n those by 45 behind 45.
        f = self.assert_twins(lambda k: k.gcd(k.n, k.when(k.same(k.n % 2, 0), 16, 45)), 1500)
        self.assertEqual(f.period, 720)
        self.assert_error(TooFine, FINE, gcd, n, when(same(n % 2, 0), 32, 45))

    def test_the_bound_of_the_way_comes_ahead_of_the_others(self):
        # The start would be too late as well, and so it is without the period.
        self.assert_error(TooFine, FINE, gcd, n - TEN - 1, 721)
        self.assert_error(TooFine, FINE, gcd, n % 25, n % 36)


class TestBounds(Twins):
    """Point [20]."""

    def test_periods_of_the_parts(self):
        self.assertEqual((n % 16 + n % 45).period, 720)
        self.assertEqual((n % 720).period, 720)
        for make in (lambda: n % 25 + n % 36, lambda: n % 25 - n % 36, lambda: (n % 25) * (n % 36),
                     lambda: (n % 25) // (n % 36 + 1), lambda: (n % 25) % (n % 36 + 1), lambda: gcd(n % 25, n % 36),
                     lambda: least(n % 25, n % 36), lambda: greatest(n % 25, n % 36)):
            self.assert_error(TooFine, FINE, make)

    def test_the_parts_count_with_their_least_periods(self):
        one = n // 25 * 25 + n % 25
        self.assertEqual(one.period, 1)
        self.assertEqual((one * (n % 36)).period, 36)
        # Also where the formula would be simple: a product that is 0.
        self.assert_error(TooFine, FINE, lambda: (n % 25) * ((n % 36) * 0 + n % 36))

    def test_periods_of_quotients_and_rests(self):
        self.assertEqual(((n // 720).period, (n % 720).period), (720, 720))
        for make in (lambda: n // 721, lambda: n % 721, lambda: n % -1000, lambda: n // 1000):
            self.assert_error(TooFine, FINE, make)
        # The squares come round sooner.
        self.assertEqual(((n * n // 1000).period, (n * n % 1000).period), (500, 500))
        self.assertEqual(((720 * n) // 1000).period, 25)
        # Odd periods as great as may be, on both sides of what is joined, and with degrees.
        odd = n % 719
        self.assertEqual([f.period for f in (odd, n // 719, odd + n, odd * odd, abs(odd - 300), n * n // 719,
                                             n * n % 719, n ** 3 // 719, least(odd, 3), gcd(odd, n * 0))], [719] * 10)
        for make in (lambda: n * n // 721, lambda: n * n % 721, lambda: n ** 3 % 727, lambda: n // TEN ** 6,
                     lambda: n * n % (TEN ** 6 + 1)):
            self.assert_error(TooFine, FINE, make)

    def test_the_period_is_to_be_a_multiple_of_those_of_the_parts(self):
        # The squares come round by 500 after 250, and by 400 after 200; n % 3 makes 750 and 600 of these.
        third = n % 3
        self.assertEqual((n * n % 500).period, 250)
        self.assert_error(TooFine, FINE, lambda: (n * n + third) % 500)
        self.assertEqual(((n * n + third) % 400).period, 600)
        # Also where the formula itself has a small period.
        self.assert_error(TooFine, FINE, lambda: (n * n + 500 * third) % 500)
        self.assertEqual(((n * n + 400 * third) % 400).period, 200)

    def test_degrees(self):
        eight = n ** 4 * n ** 4
        self.assertEqual(eight.pieces[0].degree, 8)
        self.assertEqual((n ** 2 * n ** 6, (n ** 2) ** 4, (n ** 4) ** 2), (eight, eight, eight))
        for make in (lambda: n ** 4 * n ** 5, lambda: eight * n, lambda: (n ** 3) ** 3, lambda: eight ** 2,
                     lambda: (n ** 6) ** 6, lambda: (n % 2) * n ** 3 * n ** 6):
            self.assert_error(TooHigh, HIGH, make)
        self.assertEqual((n ** 6 - n ** 6) * n ** 6, whole(0))
        self.assertEqual(UNDEFINED * n ** 6, UNDEFINED)
        self.assertEqual(eight ** 1, eight)
        self.assertEqual(eight ** 0, whole(1))

    def test_starts(self):
        self.assertEqual(abs(n - TEN).start, 10000)
        self.assertEqual((TEN // (n + 1)).start, 10000)
        self.assertEqual((TEN % (n + 1)).start, 10000)
        self.assertEqual(least(n, TEN).start, 10000)
        self.assertEqual(greatest(TEN, n).start, 10000)
        over = TEN + 1
        for make in (lambda: abs(n - over), lambda: abs(over - n), lambda: over // (n + 1), lambda: over % (n + 1),
                     lambda: least(n, over), lambda: greatest(n, over), lambda: n // (n - TEN), lambda: 5 % (n - TEN)):
            self.assert_error(TooLate, LATE, make)

    def test_starts_of_any_size(self):
        far = (TEN ** 6) ** 4 * 7 - 1
        for make in (lambda: abs(n - far), lambda: far // (n + 1), lambda: far % (n + 1), lambda: least(far, n), lambda: n * n // (n + far), lambda: (n * n + 1) % (n - far)):
            self.assert_error(TooLate, LATE, make)

    def test_divisors_with_another_sign_at_first(self):
        # The divisor is below 0 up to 20000 and never 0.
        odd = 2 * n - 4 * TEN - 1
        self.assertEqual((n * odd // odd).start, 0)
        self.assertEqual(n * odd // odd, n)
        self.assertEqual(n * odd % odd, whole(0))
        self.assert_error(TooLate, LATE, lambda: (n * odd + 1) // odd)
        even = n - 2 * TEN
        self.assert_error(TooLate, LATE, lambda: n * even // even)

    def test_late_roots_that_do_no_harm(self):
        # The roots are behind 10000, but the values there are what they are for all great n.
        square = (n - 2 * TEN) ** 2
        self.assertEqual(abs(square), square)
        self.assertEqual(999 // (square + 1000), whole(0))
        self.assert_error(TooLate, LATE, lambda: 1000 // (square + 1000))
        self.assertEqual(least(square, 0), whole(0))
        self.assertEqual(greatest(0, square), square)
        between = (n - 2 * TEN) * (n - 2 * TEN - 1)
        self.assertEqual(abs(between), between)

    def test_which_bound_is_told(self):
        # The period of the parts comes ahead of the degree, and ahead of the start.
        self.assert_error(TooFine, FINE, lambda: (n ** 5 + n % 25) * (n ** 5 + n % 36))
        self.assert_error(TooFine, FINE, lambda: (TEN + 1 + n % 25) // (n + 1 + n % 36))
        # The finer period of the pieces comes ahead of the start.
        self.assert_error(TooFine, FINE, lambda: n * n // (721 * n + 1000 * TEN))
        self.assert_error(BadPower, {"k": 7}, lambda: (n ** 4) ** 7)
        self.assert_error(BadWhole, {"value": 1001}, lambda: n ** 6 * 1001)

    def test_the_least_period_and_start_where_the_parts_have_greater_ones(self):
        f = n * n // (n + 3)
        self.assertEqual((f - f).start, 0)
        self.assertEqual(when(less(n, 7), n - 3, f), n - 3)
        self.assertEqual((n // 6 * 6 + n % 6).period, 1)
        self.assertEqual(((n % 6) % 2).period, 2)
        self.assertEqual(((n % 6) * 0).period, 1)
        self.assertEqual(((n // 6) - (n // 6)).pieces, (Piece(()),))
        self.assertEqual(gcd(n % 4, 2).period, 2)

    def test_n_whose_values_follow_other_pieces_do_not_count(self):
        # At 0 the value 0 is also that of the piece n - 3 at 3 alone.
        f = when(same(n, 3), 0, when(same(n, 5), 9, n - 3))
        self.assertEqual((f.start, f.below), (6, (-3, -2, -1, 0, 1, 9)))


class TestValues(Twins):
    """Point [24]."""

    def test_values_of_any_size(self):
        f = n * n // (n + 3)
        self.assertEqual([f(6), f(7), f(10 ** 30), f(HUNDRED)], [4, 4, 10 ** 30 - 3, HUNDRED - 3])
        self.assertIs(type(f(6)), int)
        g = n // 7
        self.assertEqual(g(HUNDRED), HUNDRED // 7)

    def test_wrong_places(self):
        for f in (n, UNDEFINED, n // 7):
            for wrong in NO_INTEGERS + (-1, -HUNDRED, Piece((1,)), same(n, 1)):
                self.assert_error(BadPlace, {"n": wrong}, f, wrong)

    def test_places_where_it_is_undefined(self):
        f = 6 // (n - 3)
        self.assert_error(Undefined, {"n": 3}, f, 3)
        g = n // (n % 3)
        for k in (0, 3, 3 * HUNDRED):
            self.assert_error(Undefined, {"n": k}, g, k)
            self.assert_error(Undefined, {"n": k}, UNDEFINED, k)

    def test_equality_is_by_the_values(self):
        self.assertTrue((n + 7) // 8 * 8 == n + -n % 8)
        self.assertTrue(n // 2 + n % 2 == (n + 1) // 2)
        self.assertFalse((-n) // 2 == -(n // 2))
        self.assertFalse(n == by_data([1], [Piece((0, 1))]))
        self.assertFalse(n == n + 0 // n)
        self.assertTrue(0 // n == 0 % n)
        self.assertFalse(0 // n == whole(0))
        self.assertTrue(UNDEFINED == n // 0)
        self.assertFalse(UNDEFINED == whole(0))
        self.assertFalse(n % 2 == n % 4)
        self.assertTrue(n != n + 1)
        self.assertFalse(n != n * 1)

    def test_no_other_kind_is_equal(self):
        for other in (5, "5", None, Piece((5,)), (5,), Where.of([5]), same(n, 5), 5.0):
            self.assertFalse(whole(5) == other)
            self.assertTrue(whole(5) != other)
            self.assertFalse(other == whole(5))
