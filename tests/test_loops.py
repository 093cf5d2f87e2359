"""Points [45] to [49]: loops."""

import unittest
from random import Random

from everyfloor.compare import Test, less, same, when
from everyfloor.errors import BadBegin, BadNumber, BadStep, BadTest, EveryfloorError, TooFine, TooHigh, TooLate
from everyfloor.formulas import Formula, gcd, unknown, whole
from everyfloor.loops import Loop
from everyfloor.pieces import Piece
from everyfloor.wheres import Where
from everyfloor.within import by_data
from tests.checks import NO_INTEGERS
from tests.twins import FINE, FORMULAS, HIGH, HUNDRED, LATE, PLAIN, TEN, UNDEFINED, Plain, Twins, as_plain, given

n = unknown()
ALL = Where.since(0)
NONE = Where.of([])


def until_zero(a, b):
    return ~same(b, 0)


def euclid(a, b):
    return [b, a % b]


def told(f):
    """The formula with the text of its data."""
    return by_data(f.below, f.pieces)


def by_the_words(begin, test, step, most):
    """(rounds, last, ends, many) of a loop, made as [47] tells it, with the tests and choices of the package."""
    rows, tests = [[told(value + whole(0)) for value in begin]], []
    while True:
        values = rows[-1]
        found = test(*values)
        t = same(values[0], values[0])
        for value in values[1:]:
            t = t & same(value, value)
        tests.append(t & found)
        if not tests[-1].holds or len(rows) > most:
            break
        values = step(*[told(when(tests[-1], value, UNDEFINED)) for value in values])
        rows.append([told(when(tests[-1], value, UNDEFINED)) for value in values])
    made = []
    for column in [list(range(len(tests))), *zip(*rows)]:
        f = UNDEFINED
        for t, value in reversed(list(zip(tests, column))):
            f = when(t, f, value)
        made.append(told(f))
    return made[0], made[1:], ~made[0].undefined, tests[-1].holds


def run_at(k, begin, test, step, most):
    """(case, rounds, last values) of a loop of plain functions at n = k, by the words of [45]."""
    values = [as_plain(value)(k) for value in begin]
    for rounds in range(most + 1):
        held = None
        if None not in values:
            held = test(*[as_plain(value) for value in values])(k)
        if held is None:
            return "broken", None, [None] * len(values)
        if not held:
            return "ends", rounds, values
        if rounds < most:
            values = [as_plain(value)(k) for value in step(*[as_plain(value) for value in values])]
    return "many", None, [None] * len(values)


class TestLoops(Twins):

    def check(self, loop, rounds, last):
        """The first rounds and last values of a loop; None where they are undefined."""
        self.assert_values(loop.rounds, rounds)
        self.assertIs(type(loop.last), tuple)
        for f, values in zip(loop.last, last, strict=True):
            self.assert_values(f, values)
        self.check_parts(loop)

    def check_parts(self, loop):
        """[49]: the three sets have no n in common, and each n is in one of them; the kinds of the attributes."""
        self.assertEqual({type(loop.ends), type(loop.many), type(loop.broken)}, {Where})
        self.assertEqual({type(f) for f in (loop.rounds, *loop.last)}, {Formula})
        self.assertFalse(loop.ends & loop.many or loop.ends & loop.broken or loop.many & loop.broken)
        self.assertEqual(loop.ends | loop.many | loop.broken, ALL)
        for f in (loop.rounds, *loop.last):
            self.assertEqual(~f.undefined, loop.ends)
            self.assertEqual(f.text, told(f).text)

    def assert_loop(self, make, most, many=80):
        """A loop of the package beside one that is run at each n; make tells (begin, test, step) by a kit."""
        loop = Loop(*make(FORMULAS), most)
        begin, test, step = make(PLAIN)
        for k in (*range(many), *range(HUNDRED, HUNDRED + 30)):
            case, rounds, last = run_at(k, begin, test, step, most)
            self.assertEqual((k in loop.ends, k in loop.many, k in loop.broken),
                             (case == "ends", case == "many", case == "broken"), k)
            self.assertEqual(given(loop.rounds, k), rounds)
            self.assertEqual([given(f, k) for f in loop.last], last)
        self.check_parts(loop)
        return loop

    def test_first_example(self):
        loop = Loop([2 * n + 1, n], lambda a, b: ~same(b, 0), lambda a, b: [b, a % b])
        self.check(loop, [0, 1, 2, 2, 2], [[1] * 5, [0] * 5])
        self.assertEqual((loop.rounds.start, loop.rounds.pieces), (2, (Piece((2,)),)))
        self.assertEqual(loop.last, (whole(1), whole(0)))
        self.assertEqual((loop.ends, loop.many, loop.broken, loop.most), (ALL, NONE, NONE, 100))

    def test_second_example(self):
        loop = Loop([n * n, n + 2], until_zero, euclid)
        self.check(loop, [1, 2, 1, 3, 3, 4, 2, 3, 3, 4, 2, 3], [[2, 1, 4, 1, 2, 1, 4, 1], [0] * 8])
        self.assertEqual((loop.rounds.start, loop.rounds.period), (3, 4))
        self.assertEqual(loop.rounds(10 ** 60 + 1), 4)

    def test_third_example(self):
        loop = Loop([n], lambda a: less(0, a), lambda a: [a // 2], most=5)
        rounds = [k.bit_length() for k in range(32)] + [None] * 9
        self.check(loop, rounds, [[0] * 32 + [None] * 9])
        self.assertEqual((loop.rounds.start, loop.rounds.pieces), (32, (None,)))
        self.assertEqual((loop.many, loop.ends, loop.broken, loop.most), (Where.since(32), ~Where.since(32), NONE, 5))

    def test_fourth_example(self):
        loop = Loop([n, 1], lambda a, b: less(b, 4), lambda a, b: [a // (b - 2), b + 1])
        self.check(loop, [None] * 9, [[None] * 9] * 2)
        self.assertEqual((loop.ends, loop.many, loop.broken), (NONE, NONE, ALL))

    def test_loops_beside_plain_ones(self):
        loops = (
            (lambda kit: ([kit.n], lambda a: kit.less(6, a), lambda a: [a - 7 - a % 3]), 20),
            (lambda kit: ([kit.n % 9, 0], lambda a, b: ~kit.same(a, 1) & ~kit.same(a, 0),
                          lambda a, b: [kit.when(kit.same(a % 2, 0), a // 2, 3 * a + 1), b + 1]), 30),
            (lambda kit: ([kit.n % 5, kit.n % 4, 2], lambda a, b, c: kit.atmost(a, b + c),
                          lambda a, b, c: (a + 2, 6 // (b - 1), c)), 7),
            (lambda kit: ([kit.n, 1, 2, 3, 4, kit.n % 3], lambda a, b, c, d, e, f: kit.less(a % 7, 3),
                          lambda a, b, c, d, e, f: [a + 1, c, d, e, f, b]), 4),
            (lambda kit: ([kit.n - 30], lambda a: kit.less(a, 0) | kit.same(7 // (a - 3), 1),
                          lambda a: [a + 11]), 5),
            (lambda kit: ([kit.n], lambda a: kit.same(0, 0), lambda a: [a + kit.n]), 3),
            (lambda kit: ([kit.n, 5], lambda a, b: kit.less(3, a), lambda a, b: [3, kit.least(a, b)]), 1),
            (lambda kit: ([kit.n % 6], lambda a: kit.less(6 // a, 4), lambda a: [a - 1]), 4))
        for make, most in loops:
            for fewer in (0, 1, most - 1, most):
                self.assert_loop(make, fewer)

    def test_no_rounds_are_allowed(self):
        calls = []

        def test(a):
            calls.append("test")
            return less(a, 5)

        loop = Loop([n], test, lambda a: calls.append("step"), 0)
        self.check(loop, [None] * 5 + [0] * 4, [[None] * 5 + [5, 6, 7, 8]])
        self.assertEqual((loop.most, loop.many, calls), (0, ~Where.since(5), ["test"]))

    def test_a_hundred_rounds(self):
        count_down = (lambda a: less(0, a), lambda a: [a - 1])
        loop = Loop([n], *count_down)
        self.check(loop, list(range(101)) + [None] * 3, [[0] * 101 + [None] * 3])
        self.assertEqual((loop.many, loop.most), (Where.since(101), 100))
        self.assertEqual(Loop([n % 101], *count_down).ends, ALL)
        self.assertEqual(Loop([n % 102], *count_down).many, Where.rest(102, 101))
        self.assertEqual(Loop([n + 101], *count_down).many, ALL)
        self.assertEqual(Loop(begin=[n + 100], test=count_down[0], step=count_down[1], most=100).many, Where.since(1))

    def test_many_rounds_at_every_n_and_an_end_nowhere(self):
        loop = Loop([n, 3], lambda a, b: atleast(b, a), lambda a, b: [a, b + a], 2)
        self.assertEqual((loop.many, loop.ends), (~Where.since(4), Where.since(4)))
        loop = Loop([n], lambda a: same(1, 1), lambda a: [a], 9)
        self.check(loop, [None] * 5, [[None] * 5])
        self.assertEqual((loop.ends, loop.many, loop.broken), (NONE, ALL, NONE))

    def test_broken_loops(self):
        odd = Where.rest(2, 1)
        loop = Loop([n // (n % 2)], lambda a: less(a, 0), euclid)
        self.assertEqual((loop.ends, loop.broken, loop.last[0](7)), (odd, ~odd, 7))
        # The test may hold where a value is undefined; the loop is broken there all the same.
        loop = Loop([n, n // (n % 2)], lambda a, b: same(0, 0), lambda a, b: [a, b], 3)
        self.assertEqual((loop.many, loop.broken, loop.ends), (odd, ~odd, NONE))
        loop = Loop([n], lambda a: ~same(a // (a % 2), 3), lambda a: [5], 3)
        self.assertEqual((loop.many, loop.broken, loop.ends), (odd - Where.of([3]), ~odd, Where.of([3])))
        loop = Loop([UNDEFINED], lambda a: less(a, 0), lambda a: [a])
        self.assertEqual((loop.ends, loop.many, loop.broken, loop.rounds), (NONE, NONE, ALL, UNDEFINED))
        # A value that is undefined behind a round breaks the loop, also where the test does not ask for it.
        loop = Loop([n, 1], lambda a, b: less(a, 4), lambda a, b: [a + 2, 1 // (a % 3)], 1)
        self.assertEqual((loop.broken, loop.many, loop.ends), (Where.of([0, 3]), Where.of([1]), Where.since(2) - Where.of([3])))

    def test_integers_and_tuples_in_the_place_of_formulas_and_lists(self):
        loop = Loop((3, -1000, 1000), lambda a, b, c: less(0, a), lambda a, b, c: (a - 1, 7, c))
        self.assertEqual((loop.rounds, loop.last), (whole(3), (whole(0), whole(7), whole(1000))))
        self.assertEqual(Loop([n], lambda a: less(0, a), lambda a: [0]).rounds, Loop((n,), lambda a: less(0, a), lambda a: (whole(0),)).rounds)

    def test_facts(self):
        for f, g in ((n * n, n + 2), (n, 6 - n), (n % 12, 18), (n - 20, n // 2 - 5), (n ** 3 + 1, 2 * n)):
            loop = Loop([f, g], until_zero, euclid, 30)
            divisor = gcd(f, g)
            for k in range(200):
                if k in loop.ends:
                    self.assertEqual(abs(loop.last[0](k)), divisor(k))
            fewer = Loop([f, g], until_zero, euclid, 2)
            self.assertTrue(fewer.ends <= loop.ends)
            for k in range(200):
                if k in fewer.ends:
                    self.assertEqual([h(k) for h in (fewer.rounds, *fewer.last)],
                                     [h(k) for h in (loop.rounds, *loop.last)])

    def test_loops_in_loops(self):
        def remainder(a, b):
            return Loop([a, b], lambda x, y: less(0, y) & ~less(x, y), lambda x, y: [x - y, y], 20).last[0]

        loop = Loop([n % 12, 7], until_zero, lambda a, b: [b, remainder(a, b)])
        self.assertEqual(loop.last[0], gcd(n % 12, 7))


def atleast(a, b):
    return ~less(a, b)


class TestCalls(Twins):

    def test_how_often_and_with_what_the_functions_are_called(self):
        calls = []

        def test(a, b):
            calls.append(("test", a, b))
            return less(a, 3)

        def step(a, b):
            calls.append(("step", a, b))
            return [a + 1, b // a]

        Loop([n - 1, 12], test, step, 3)
        self.assertEqual([call[0] for call in calls], ["test", "step", "test", "step", "test"])
        expected = [
            ([-1, 0, 1, 2, 3, 4], [12] * 6),
            ([-1, 0, 1, 2, None, None], [12] * 4 + [None] * 2),
            # At n = 1 the loop is broken by 12 // 0, at n = 3 and n = 4 it has come to its end.
            ([0, 1, 2, 3, None, None], [-12, None, 12, 6, None, None]),
            ([0, None, 2, None, None, None], [-12, None, 12, None, None, None]),
            ([1, None, 3, None, None, None], [None, None, 6, None, None, None])]
        for (_, a, b), (first, second) in zip(calls, expected, strict=True):
            self.assert_values(a, first)
            self.assert_values(b, second)

    def test_step_gets_what_is_undefined_where_the_loop_does_not_go_on(self):
        seen = []
        Loop([n, 5], lambda a, b: same(a % 2, 0), lambda a, b: seen.append((a, b)) or [a + 1, b])
        self.assertEqual([f.text for f in seen[0]], ["given(; 0 1, none)", "given(; 5, none)"])
        # All go on, and the values stay as they are.
        Loop([n, 5], lambda a, b: less(b, 6), lambda a, b: seen.append((a, b)) or [a, b + 1])
        self.assertEqual([f.text for f in seen[1]], ["given(; 0 1)", "given(; 5)"])
        self.assertEqual(len(seen), 2)

    def test_a_value_alone_that_is_undefined_stays_as_it_is(self):
        seen = []
        Loop([n, 1], lambda a, b: seen.append((a, b)) or less(a, 2), lambda a, b: [a + 1, 1 // (a - 1)], 1)
        # Behind the round a is defined at n = 1, and b is not: the test gets both as they are.
        self.assert_values(seen[1][0], [1, 2, None])
        self.assert_values(seen[1][1], [-1, None, None])

    def test_the_texts_are_those_of_the_data(self):
        texts = []

        def test(a, b):
            texts.extend([a.text, b.text])
            return less(a, 2)

        def step(a, b):
            texts.extend([a.text, b.text])
            return (a + 1, b * 3)

        loop = Loop([n * n, 7], test, step, 1)
        self.assertEqual(texts, ["given(; 0 0 1)", "given(; 7)", "given(0, 1; none)", "given(7, 7; none)",
                                 "given(1, 2; none)", "given(21, 21; none)"])
        self.assertEqual(loop.rounds.text, "given(none, 1; 0)")
        self.assertEqual([f.text for f in loop.last], ["given(none, 2; 0 0 1)", "given(none, 21; 7)"])

    def test_a_step_is_called_once_for_each_round(self):
        for most, rounds in ((0, 0), (2, 2), (4, 4), (9, 4)):
            calls = []
            Loop([n % 5], lambda a: calls.append("test") or less(0, a), lambda a: calls.append("step") or [a - 1], most)
            self.assertEqual(calls, ["test"] + ["step", "test"] * rounds)

    def test_lists_may_be_changed_afterwards(self):
        begin, returned = [n, 3], []

        def step(a, b):
            returned.append([a, b - 1])
            begin.clear()
            return returned[-1]

        def test(a, b):
            for values in returned:
                values.clear()
            return less(0, b)

        loop = Loop(begin, test, step)
        self.assertEqual((loop.rounds, loop.last), (whole(3), (n, whole(0))))

    def test_drawn_loops_are_made_as_the_words_tell(self):
        draw = Random(47)
        errors, fine = set(), 0
        for _ in range(350):
            begin, test, step = drawn_loop(draw)
            most = draw.choice((0, 1, 2, 4))
            try:
                expected = by_the_words(begin, test, step, most)
            except EveryfloorError as error:
                errors.add(type(error))
                self.assert_error(type(error), vars(error), Loop, begin, test, step, most)
                continue
            fine += 1
            loop = Loop(begin, test, step, most)
            self.assertEqual((loop.rounds, list(loop.last), loop.ends, loop.many), expected)
            self.assertEqual([f.text for f in (loop.rounds, *loop.last)], [f.text for f in (expected[0], *expected[1])])
            self.assertEqual(loop.broken, ~(loop.ends | loop.many))
        self.assertGreater(fine, 200)
        self.assertGreaterEqual(errors, {TooFine, TooLate})


def drawn_loop(draw):
    """A loop with bounds that are passed now and then."""
    starts = (n, n * n, n % 30, n % 7 - 3, 6 // (n - 2), n - 40, whole(90) * 100 - n, (n % 24) * 5, whole(5))
    begin = [draw.choice(starts) for _ in range(draw.randrange(1, 4))]
    one, other = draw.randrange(len(begin)), draw.randrange(len(begin))
    low, fine = draw.randrange(-2, 9), draw.choice((2, 5, 7, 32, 49))
    test = draw.choice((
        lambda *v: less(v[one], low), lambda *v: ~less(v[one], low), lambda *v: ~same(v[one] % fine, v[other] % 2),
        lambda *v: less(v[one], 900) & ~same(6 // (v[other] - low), 1)))
    change = draw.choice((
        lambda *v: [a - 3 for a in v], lambda *v: [v[other] % (v[one] + 1)] + [a // 2 for a in v[1:]],
        lambda *v: [a % fine for a in v], lambda *v: [when(less(a, 50), a * a, a - low) for a in v],
        lambda *v: [1000 * (a + 9) for a in v]))
    return begin, test, change


class TestWrongLoops(Twins):

    def test_wrong_beginnings(self):
        for begin in (None, 3, n, "n", {}, {0: n}, set(), (), [], [n] * 7, (n,) * 7, range(2), iter([n])):
            self.assert_error(BadBegin, {}, Loop, begin, None, None, -1)
        for value in (*NO_INTEGERS, 1001, -1001, HUNDRED, same(n, n), Piece((1,)), ALL, [n], Formula):
            for begin in ([value], [n, value], (value, n, n, n, n, n)):
                self.assert_error(BadBegin, {}, Loop, begin, None, None, -1)

    def test_wrong_most(self):
        for most in (*NO_INTEGERS, -1, 101, HUNDRED):
            self.assert_error(BadNumber, {"number": most}, Loop, [n] * 6, None, None, most)

    def test_wrong_tests(self):
        for found in (None, True, False, 1, n, ALL, [same(n, n)], Test, (same(n, n),)):
            self.assert_error(BadTest, {}, Loop, [n], lambda a: found, None)
            # Behind a round, too.
            self.assert_error(BadTest, {}, Loop, [n], lambda a: less(a, 5) if a == n else found, lambda a: [3])

    def test_wrong_steps(self):
        for found in (None, n, 5, [], [n], [n, n, n], {0: n, 1: n}, {n.text, "x"}, "nn", [n, 1001], [n, -1001],
                      [True, n], [n, None], [n, same(n, n)], [[n], n], iter([n, n])):
            self.assert_error(BadStep, {}, Loop, [n, n], lambda a, b: less(a, 5), lambda a, b: found)

    def test_a_step_that_is_not_called_is_not_looked_at(self):
        loop = Loop([n], lambda a: less(a, 0), lambda a: None)
        self.assertEqual(loop.rounds, whole(0))
        self.assertEqual(Loop([n], lambda a: less(a, 5), None, 0).many, ~Where.since(5))

    def test_errors_of_the_functions_go_on(self):
        class Mine(Exception):
            pass

        def raising(*values):
            raise Mine()

        with self.assertRaises(Mine):
            Loop([n], raising, None)
        with self.assertRaises(Mine):
            Loop([n], lambda a: less(a, 9), raising)
        self.assert_error(TooHigh, HIGH, Loop, [n], lambda a: less(0, a), lambda a: [a ** 6 * a ** 6])

    def test_a_test_is_called_ahead_of_the_making_of_t(self):
        # The values have the periods 25 and 36: the making of t needs the period 900.
        values = [when(same(n % 25, 0), n, UNDEFINED), when(same(n % 36, 0), n, UNDEFINED)]
        self.assert_error(BadTest, {}, Loop, values, lambda a, b: None, None)
        self.assert_error(TooLate, LATE, Loop, values, lambda a, b: less(TEN, n), None)
        self.assert_error(TooFine, FINE, Loop, values, lambda a, b: less(a, 0), None)
        # Values without a common period do no harm where they are defined everywhere.
        self.assertEqual(Loop([n % 25, n % 36], lambda a, b: less(a, 0), None).ends, ALL)

    def test_what_step_gets_is_made_ahead_of_the_call(self):
        calls = []
        self.assert_error(TooFine, FINE, Loop, [n % 25], lambda a: same(n % 36, 0), lambda a: calls.append(a))
        self.assertEqual(calls, [])

    def test_what_step_returns_is_looked_at_ahead_of_the_making(self):
        test = lambda a, b: same(n % 36, 0)
        self.assert_error(BadStep, {}, Loop, [n, 1], test, lambda a, b: [n % 25, None])
        self.assert_error(TooFine, FINE, Loop, [n, 1], test, lambda a, b: [n % 25, 2])

    def test_a_test_behind_a_round_comes_behind_the_making_of_the_values(self):
        calls = []
        test = lambda a: calls.append(a) or same(n % 36, 0)
        self.assert_error(TooFine, FINE, Loop, [n], test, lambda a: [n % 25])
        self.assertEqual(len(calls), 1)

    def test_rounds_and_last_are_made_behind_the_last_round(self):
        # Where the loop ends at once, the value has the period 25; what goes on has the period 36.
        halves = [n % 25 + n * 0]
        self.assert_error(TooFine, FINE, Loop, halves, lambda a: same(n % 36, 0), None, 0)
        late = lambda a: less(a, TEN)
        self.assert_error(TooLate, LATE, Loop, [n], lambda a: ~less(TEN - 1, a) | same(a, TEN), None, 0)
        self.assertEqual(Loop([n], late, None, 0).many, ~Where.since(10000))

    def test_ends_and_many_need_a_common_period(self):
        # The values are undefined at all n but those that the rests tell: ends has the period 25, many 36.
        def test(a):
            return by_rests(25, 1, 36, 0)

        self.assert_error(TooFine, FINE, Loop, [n], test, lambda a: [a], 3)


def by_rests(m, r, k, s):
    """A test that fails where the rest of n by m is r, holds where that by k is s, and is undefined at other n."""
    t = less(n, 0)
    return Test(Where.rest(k, s), Where.rest(m, r), t.text)


if __name__ == "__main__":
    unittest.main()
