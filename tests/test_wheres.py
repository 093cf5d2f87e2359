"""Points [4] and [11] to [16]: sets of n."""

import itertools
import unittest

from everyfloor.errors import BadNumber, BadPlace, BadTruth, NoMember, TooFine, TooLate
from everyfloor.wheres import Where
from tests.checks import NO_INTEGERS, Checks

HUNDRED = 10 ** 100 + 39
MANY = 400
SAMPLES = [Where(below, rests) for below, rests in (
    ([], [False]), ([], [True]), ([True], [False]), ([False], [True]), ([], [True, False]),
    ([True, False, True], [False, True]), ([False, False, True, True], [True, False, False]),
    ([], [True, True, False, False]), ([True] * 9, [False] * 5 + [True]), ([], [k in (0, 1, 4, 7) for k in range(12)]),
    ([k % 7 == 3 for k in range(50)], [False]), ([k % 7 == 3 for k in range(50)], [True, False, False, True]))]


def members_of(w):
    """The members below MANY, by the document's words about below and rests."""
    return [n for n in range(MANY) if (w.below[n] if n < len(w.below) else w.rests[n % len(w.rests)])]


class TestMaking(Checks):

    def form(self, below, rests):
        w = Where(below, rests)
        self.assertIs(type(w.below), tuple)
        self.assertIs(type(w.rests), tuple)
        self.assertEqual({type(truth) for truth in w.below + w.rests}, {bool})
        self.assertEqual((w.start, w.period), (len(w.below), len(w.rests)))
        return w.below, w.rests

    def test_members_by_the_lists(self):
        for below in itertools.product((True, False), repeat=3):
            for rests in itertools.product((True, False), repeat=4):
                w = Where(below, rests)
                told = [n for n in range(MANY) if (below[n] if n < 3 else rests[n % 4])]
                self.assertEqual([n for n in range(MANY) if n in w], told)
                self.assertEqual(members_of(w), told)

    def test_the_least_period_and_the_least_start(self):
        for size, length in itertools.product((0, 3), (1, 2, 4, 6)):
            for below in itertools.product((True, False), repeat=size):
                for rests in itertools.product((True, False), repeat=length):
                    self.check_least(Where(below, rests))

    def check_least(self, w):
        members = dict.fromkeys(members_of(w))
        fits = [[(n in members) == (n + m in members) for n in range(100)] for m in range(1, w.period + 1)]
        self.assertTrue(all(fits[-1][w.start:]))
        self.assertFalse(any(all(fit[50:]) for fit in fits[:-1]))
        if w.start > 0:
            self.assertFalse(fits[-1][w.start - 1])

    def test_lists_that_are_longer_than_needed(self):
        self.assertEqual(self.form([], [True] * 1000), ((), (True,)))
        self.assertEqual(self.form([True] * 20000, [True] * 997), ((), (True,)))
        self.assertEqual(self.form([False, True] * 6000, [False, True] * 720), ((), (False, True)))
        self.assertEqual(self.form([True] + [False] * 30000, [False] * 10007), ((True,), (False,)))
        rests = [k == 5 for k in range(720)]
        self.assertEqual(self.form([], rests * 3), ((), tuple(rests)))

    def test_rests_go_by_n_and_not_by_the_places_behind_below(self):
        self.assertEqual(self.form([True], [False, True, True]), ((True,), (False, True, True)))
        self.assertEqual(self.form([False], [False, True, True]), ((), (False, True, True)))

    def test_periods_up_to_720(self):
        self.assertEqual(Where([], [True] + [False] * 719).period, 720)
        for length in (721, 1440, 1021, 100003):
            self.assert_error(TooFine, {"most": 720}, Where, [], [True] + [False] * (length - 1))

    def test_starts_up_to_10000(self):
        self.assertEqual(Where([False] * 9999 + [True], [False]).start, 10000)
        self.assertEqual(Where([False] * 9999 + [True] + [False] * 5000, [False]).start, 10000)
        self.assert_error(TooLate, {"most": 10000}, Where, [False] * 10000 + [True], [False])
        self.assert_error(TooLate, {"most": 10000}, Where, [False] * 10001, [True])

    def test_wrong_truths(self):
        for wrong in (1, 0, None, "True", [], 1.0):
            self.assert_error(BadTruth, {"index": 1}, Where, [True, wrong, wrong], [wrong])
            self.assert_error(BadTruth, {"index": 2}, Where, [True, False], [True, False, wrong, wrong])
            self.assert_error(BadTruth, {"index": 0}, Where, [wrong], [])
            self.assert_error(BadTruth, {"index": 1}, Where, [True, wrong], [])

    def test_empty_rests(self):
        self.assert_error(BadTruth, {"index": 0}, Where, [True, False], [])
        self.assert_error(BadTruth, {"index": 0}, Where, (), ())

    def test_the_order_of_the_errors(self):
        fine, late = [True] + [False] * 720, [False] * 10000 + [True]
        self.assert_error(BadTruth, {"index": 3}, Where, late, [True, True, True, None] + fine)
        self.assert_error(BadTruth, {"index": 10001}, Where, late + [None], fine)
        self.assert_error(BadTruth, {"index": 0}, Where, late, [])
        self.assert_error(TooFine, {"most": 720}, Where, late, fine)

    def test_equality_is_by_the_members(self):
        for one, other in itertools.product(SAMPLES, repeat=2):
            self.assertIs(one == other, members_of(one) == members_of(other))
            self.assertIs(one != other, members_of(one) != members_of(other))
        for w in SAMPLES:
            longer = [n in w for n in range(w.start + 7)]
            self.assertTrue(w == Where(longer, w.rests * 3))
            self.assertFalse(w == Where(longer + [(len(longer) in w) is False], w.rests))

    def test_no_other_kind_is_equal(self):
        for other in (5, (), [], (5,), None, "5", {5: True}, {5}):
            self.assertFalse(Where.of([5]) == other)
            self.assertTrue(Where.of([5]) != other)


class TestMakers(Checks):

    def test_of(self):
        w = Where.of([1, 5, 13])
        self.assertEqual((w.period, w.start, w.rests), (1, 14, (False,)))
        self.assertEqual(members_of(w), [1, 5, 13])
        self.assertEqual(members_of(Where.of((13, 1, 5, 1))), [1, 5, 13])
        for nothing in ([], ()):
            self.assertEqual((Where.of(nothing).below, Where.of(nothing).rests), ((), (False,)))
        self.assertEqual(Where.of(list(range(10000))).start, 10000)

    def test_of_wrong_members(self):
        self.assertEqual(Where.of([9999]).start, 10000)
        for late in (10000, 10001, HUNDRED):
            self.assert_error(TooLate, {"most": 10000}, Where.of, [3, late])
        for wrong in NO_INTEGERS + (-1, -HUNDRED):
            self.assert_error(BadPlace, {"n": wrong}, Where.of, [10000, 3, wrong, "later"])

    def test_since(self):
        for low in (0, 1, 17, 10000):
            w = Where.since(low)
            self.assertEqual((w.below, w.rests), ((False,) * low, (True,)))
        for wrong in NO_INTEGERS + (-1,):
            self.assert_error(BadPlace, {"n": wrong}, Where.since, wrong)
        for late in (10001, HUNDRED):
            self.assert_error(TooLate, {"most": 10000}, Where.since, late)

    def test_rest(self):
        for m, r in ((1, 0), (2, 1), (3, 0), (12, 7), (720, 719)):
            w = Where.rest(m, r)
            self.assertEqual((w.period, w.start), (m, 0))
            self.assertEqual([n for n in range(2 * MANY) if n in w], [n for n in range(2 * MANY) if n % m == r])

    def test_rest_of_wrong_numbers(self):
        for wrong in NO_INTEGERS + (0, -3):
            self.assert_error(BadNumber, {"number": wrong}, Where.rest, wrong, None)
        for wrong in NO_INTEGERS + (-1, 3, 4):
            self.assert_error(BadNumber, {"number": wrong}, Where.rest, 3, wrong)
        self.assert_error(BadNumber, {"number": 721}, Where.rest, 721, 721)
        for fine in (721, 1000, HUNDRED):
            self.assert_error(TooFine, {"most": 720}, Where.rest, fine, 720)


class TestMembers(Checks):

    def test_any_value_may_be_asked(self):
        everything = Where.since(0)
        for other in NO_INTEGERS + (-1, -HUNDRED, {}, everything):
            self.assertIs(other in everything, False)
        self.assertIs(1 in everything, True)
        self.assertIs(HUNDRED in everything, True)

    def test_great_n(self):
        for w in SAMPLES:
            for n in range(HUNDRED, HUNDRED + 30):
                self.assertIs(n in w, w.rests[n % w.period])

    def test_joined_sets(self):
        everything = set(range(MANY))
        for v, w in itertools.product(SAMPLES, repeat=2):
            one, other = set(members_of(v)), set(members_of(w))
            for joined, expected in ((v | w, one | other), (v & w, one & other), (v - w, one - other),
                                     (v ^ w, one ^ other), (~v, everything - one)):
                self.assertEqual(members_of(joined), sorted(expected))
                self.assertEqual(joined, Where(joined.below, joined.rests))
                self.assertIs(type(joined), Where)

    def test_common_multiples_of_the_periods(self):
        self.assertEqual((Where.rest(16, 0) & Where.rest(45, 0)).period, 720)
        self.assertEqual((Where.rest(720, 5) | Where.rest(360, 0)).period, 720)
        for v, w in ((Where.rest(25, 0), Where.rest(36, 0)), (Where.rest(7, 0), Where.rest(103, 0)),
                     (Where.rest(720, 0), Where.rest(7, 1))):
            for join in (lambda a, b: a | b, lambda a, b: a & b, lambda a, b: a - b, lambda a, b: a ^ b):
                self.assert_error(TooFine, {"most": 720}, join, v, w)
        # Also where the joined set itself is simple: no n is even and odd.
        self.assert_error(TooFine, {"most": 720}, lambda: Where.rest(32, 0) & Where.rest(50, 1))

    def test_the_bounds_of_joined_starts(self):
        late = Where.of([9999])
        self.assertEqual((late | Where.since(10000)).start, 9999)
        self.assertEqual((~late).start, 10000)
        self.assertEqual(late ^ late, Where.of([]))

    def test_comparisons(self):
        for v, w in itertools.product(SAMPLES, repeat=2):
            one, other = set(members_of(v)), set(members_of(w))
            self.assertIs(v <= w, one <= other)
            self.assertIs(v < w, one < other)
            self.assertIs(v >= w, one >= other)
            self.assertIs(v > w, one > other)

    def test_other_values_are_not_compared(self):
        w = Where.of([5])
        for compare in (lambda: w <= 5, lambda: w < (5,), lambda: w >= {5}, lambda: w > None):
            with self.assertRaises(TypeError):
                compare()

    def test_comparisons_of_any_periods(self):
        odd, fine = Where.rest(2, 1), Where.rest(719, 3)
        self.assertIs(fine <= Where.rest(720, 5), False)
        self.assertIs(fine <= Where.rest(720, 5) | odd | ~odd, True)
        self.assertIs(Where.rest(720, 5) < odd, True)
        self.assertIs(odd > Where.rest(718, 1), True)
        self.assertIs(odd >= Where.rest(718, 0), False)
        # 25 and 36 have no divisor in common, so each pair of rests occurs.
        self.assertIs(Where.rest(25, 0) <= ~Where.rest(36, 35), False)
        self.assertIs(Where.rest(36, 2) - Where.of([2]) <= ~Where.rest(30, 1), True)
        self.assertIs(Where.rest(700, 699) >= Where.rest(701, 0) & Where.of([699]), True)

    def test_truth_as_a_condition(self):
        for w in SAMPLES:
            self.assertIs(bool(w), len(members_of(w)) > 0)
        self.assertFalse(Where.of([9999]) - Where.rest(3, 0))
        self.assertTrue(Where.of([9999]))
        self.assertTrue(Where.since(10000))


class TestInOrder(Checks):

    def test_as_the_members_are(self):
        for w in SAMPLES:
            members = members_of(w)
            self.assertEqual(w.least, members[0] if members else None)
            self.assertEqual(w.size, None if True in w.rests else len(members))
            for n in range(-3, MANY // 2):
                self.assertEqual(w.first_from(n), next((k for k in members if k >= n), None))
                self.assertEqual(w.last_to(n), next((k for k in reversed(members) if k <= n), None))
                for high in (-1, 0, 2, n - 1, n, n + 1, n + 37):
                    self.assertEqual(w.how_many(n, high), len([k for k in members if n <= k < high]))
            for k, member in enumerate(members):
                self.assertEqual(w.member(k), member)

    def test_properties(self):
        for name in ("least", "size"):
            self.assertIsInstance(vars(Where)[name], property)

    def test_the_empty_set(self):
        nothing = Where.of([])
        self.assertEqual([nothing.least, nothing.size, nothing.first_from(-5), nothing.last_to(HUNDRED)],
                         [None, 0, None, None])
        self.assertEqual(nothing.how_many(-HUNDRED, HUNDRED), 0)
        self.assert_error(NoMember, {"k": 0}, nothing.member, 0)

    def test_the_set_of_all_n(self):
        everything = Where.since(0)
        self.assertEqual([everything.least, everything.size, everything.first_from(-HUNDRED),
                          everything.first_from(HUNDRED), everything.last_to(HUNDRED), everything.last_to(-1)],
                         [0, None, 0, HUNDRED, HUNDRED, None])
        self.assertEqual(everything.how_many(-HUNDRED, HUNDRED), HUNDRED)
        self.assertEqual(everything.member(HUNDRED), HUNDRED)

    def test_numbers_of_any_size(self):
        w = Where([True, False, True], [False, False, True, True, False])
        # The members are 0, then 2, 3, 7, 8, 12, 13 and so on.
        self.assertEqual(w.how_many(-HUNDRED, 5 * HUNDRED), 2 * HUNDRED + 1)
        self.assertEqual(w.how_many(5 * HUNDRED, -HUNDRED), 0)
        self.assertEqual(w.first_from(5 * HUNDRED + 4), 5 * HUNDRED + 7)
        self.assertEqual(w.last_to(5 * HUNDRED + 1), 5 * HUNDRED - 2)
        self.assertEqual(w.member(2 * HUNDRED), 5 * HUNDRED - 2)

    def test_numbers_that_no_member_has(self):
        w = Where.of([1, 5, 13])
        self.assertEqual([w.member(k) for k in range(3)], [1, 5, 13])
        for k in (3, 4, HUNDRED):
            self.assert_error(NoMember, {"k": k}, w.member, k)
        for wrong in NO_INTEGERS + (-1, -HUNDRED):
            self.assert_error(BadNumber, {"number": wrong}, w.member, wrong)

    def test_wrong_places(self):
        w = Where.rest(3, 1)
        for wrong in NO_INTEGERS:
            self.assert_error(BadPlace, {"n": wrong}, w.first_from, wrong)
            self.assert_error(BadPlace, {"n": wrong}, w.last_to, wrong)
            self.assert_error(BadPlace, {"n": wrong}, w.how_many, wrong, "later")
            self.assert_error(BadPlace, {"n": wrong}, w.how_many, 3, wrong)


class TestExamplesByHand(Checks):
    """Point [16]."""

    def test_the_period_and_the_start(self):
        w = Where((True, False, True), (False, True))
        self.assertEqual([n for n in range(10) if n in w], [0, 2, 3, 5, 7, 9])
        self.assertEqual((w.period, w.start), (2, 3))
        self.assertEqual((w.below, w.rests), ((True, False, True), (False, True)))

    def test_the_odd_n(self):
        w = Where((False, True, False), (False, True))
        self.assertEqual(w.start, 0)
        self.assertEqual(w, Where.rest(2, 1))

    def test_finite_sets(self):
        w = Where.of([1, 5, 13])
        self.assertEqual((w.period, w.start, w.rests), (1, 14, (False,)))

    def test_joined(self):
        self.assertEqual(Where.rest(2, 0) & Where.rest(3, 0), Where.rest(6, 0))
        w = Where.rest(2, 0) | Where.rest(2, 1)
        self.assertEqual(w, Where.since(0))
        self.assertEqual(w.period, 1)
        self.assert_error(TooFine, {"most": 720}, lambda: Where.rest(25, 0) | Where.rest(36, 0))

    def test_members_in_order(self):
        w = Where.rest(3, 1) - Where.of([4, 10])
        self.assertEqual([n for n in range(17) if n in w], [1, 7, 13, 16])
        self.assertEqual(w.member(2), 13)
        self.assertEqual(w.how_many(0, 20), 5)
        self.assertEqual(w.first_from(8), 13)
        self.assertEqual(w.last_to(12), 7)
        self.assertIsNone(w.size)
        self.assertEqual(w.member(10 ** 30), 3 * 10 ** 30 + 7)


if __name__ == "__main__":
    unittest.main()
