"""Calls with the bounds reached: period 720, start 10,000, degree 8; six variables, 100 rounds; long texts and books.

Each comes to its end soon.
"""

import time
import unittest

from everyfloor.backs import simplest, told_back
from everyfloor.books import Book
from everyfloor.claims import (
    alike, always, common, highest, holds_from, least_from, lowest, reached, remainders, solved)
from everyfloor.compare import less, same, when
from everyfloor.errors import NoBound, TooFine, TooHigh, TooLate, TooMany
from everyfloor.formulas import gcd, greatest, least, unknown, whole
from everyfloor.loops import Loop
from everyfloor.pieces import Piece
from everyfloor.texts import read_formula, read_test
from everyfloor.wheres import Where
from everyfloor.within import by_data, count, place, total

SECONDS = 10
n = unknown()


def data(degree, seed):
    """A formula with the period 720, the start 10,000 and pieces of the degree."""
    below = [(seed * k * k + k) % 1009 - 500 for k in range(9999)] + [10 ** 50 + seed]
    pieces = [Piece([(seed * r * k + r + k) % 97 - 48 for k in range(degree)] + [1 + (r * r + seed) % 7])
              for r in range(720)]
    # The last one makes the rests different from each other by any smaller step.
    return by_data(below, pieces[:-1] + [Piece((seed,) + (0,) * (degree - 1) + (50,) * (degree > 0))])


def fine_data(degree):
    """The same with pieces that are whole at the n with their rests alone: t choose degree, with n = 720 * t + r."""
    pieces = []
    for r in range(720):
        piece = Piece((r % 11 + 1,))
        for k in range(degree):
            piece = piece * Piece((-r - 720 * k, 1), 720 * (k + 1))
        pieces.append(piece)
    return by_data([7] * 9999 + [10 ** 50], pieces)


class Timed(unittest.TestCase):

    def timed(self, function, *args):
        """What the call returns, or None if it raises one of the errors that bounds have."""
        begin = time.process_time()
        try:
            found = function(*args)
        except (TooFine, TooHigh, TooLate, TooMany, NoBound):
            found = None
        self.assertLess(time.process_time() - begin, SECONDS)
        return found


class TestLimits(Timed):

    @classmethod
    def setUpClass(cls):
        cls.formulas = [data(8, 3), fine_data(3), data(4, 7), data(1, 2), data(0, 9)]

    def test_the_formulas_reach_the_bounds(self):
        for f in self.formulas:
            self.assertEqual((f.period, f.start), (720, 10000))
        self.assertEqual(max(piece.degree for piece in self.formulas[0].pieces), 8)

    def pairs(self):
        return list(zip(self.formulas, self.formulas[1:] + self.formulas[:1]))

    def test_arithmetic(self):
        for f, g in self.pairs() + [(self.formulas[0], h) for h in (n, whole(7), whole(720))]:
            for make in (lambda: f + g, lambda: f * g, lambda: f // g, lambda: f % g, lambda: g // f, lambda: g % f,
                         lambda: gcd(f, g), lambda: least(f, g), lambda: greatest(f, g)):
                made = self.timed(make)
                if made is not None:
                    self.assertLessEqual((made.period, made.start), (720, 10000))
        for f in self.formulas:
            for k in (0, 1, 2, 6):
                self.timed(lambda: abs(f ** k - 7))

    def test_tests_and_formulas_within_formulas(self):
        for f, g in self.pairs():
            t, u = self.timed(less, f, g), self.timed(same, f, g)
            self.timed(when, t, f, g)
            self.timed(lambda: t & ~u | u)
            for h in (n, f, n // 720, n * n, whole(1000) * 10 - n):
                self.timed(lambda: f(h))
                self.timed(total, f, h)
                self.timed(count, t, h)
                self.timed(place, t, h)
            self.timed(always, t)
            self.timed(holds_from, t)
            self.assertIs(type(self.timed(alike, f, g)), int)

    def test_places_that_are_asked_one_by_one(self):
        # The host has other values at the odd places below 10000; all places are even, and many of them are asked.
        f = when(less(n, 1000 * whole(10)) & same(n % 2, 1), 5, 0)
        found = self.timed(lambda: f(2 * (n // 720) + 2 * (n % 720)))
        self.assertEqual(found, whole(0))

    def test_claims(self):
        for f in self.formulas:
            self.timed(least_from, f, 10 ** 40)
            self.assertIn(10 ** 9, self.timed(solved, f, f(10 ** 9))[1] + (10 ** 9,) * (f.pieces[1].degree < 1))
            self.timed(reached, f)
            self.timed(lowest, f)
            self.timed(highest, f, 10 ** 60)
            self.timed(common, f)
            for m in (1, 64, 81, 96, 97, 100):
                self.assertLessEqual(len(self.timed(remainders, f, m)), m)

    def test_long_ways_of_euclid(self):
        # Great constants and powers of n with great factors take hundreds of steps.
        one = [Piece((0,) * 4 + (7 ** 110 + r * 5 ** 100,)) for r in range(60)]
        other = [Piece((0,) * 4 + (3 ** 200 + r * 2 ** 300,)) for r in range(60)]
        found = self.timed(gcd, by_data([], one), by_data([], other))
        self.assertEqual((found.period, found.pieces[7].degree), (60, 4))


class TestLimitsOfWhatIsBuiltOnFormulas(Timed):

    def test_told_back(self):
        for f, degree in ((data(8, 3), 8), (fine_data(3), 3), (data(0, 9), 0)):
            values = list(f.below) + [f(k) for k in range(10000, 10000 + 720 * (degree + 1))]
            self.assertEqual(self.timed(told_back, values, 10000, 720, degree), f)
        values = [17 * k ** 3 % 1009 for k in range(720)]
        self.assertEqual(self.timed(simplest, values + values).period, 720)
        self.assertIsNone(self.timed(simplest, values + values[:-1]))
        self.assertEqual(self.timed(simplest, values + [0] * 800).start, 720)

    def test_loops_with_many_rounds(self):
        fine = n % 720
        loop = self.timed(Loop, [fine, n, 1, fine * 2, 5, fine + n], lambda *v: less(0, v[0]),
                          lambda *v: [v[0] - 1, v[1] + v[2], *v[2:]])
        self.assertEqual((loop.many, loop.ends.period), (~loop.ends, 720))
        self.assertEqual(loop.last[1](10 ** 30 // 720 * 720 + 100), 10 ** 30 // 720 * 720 + 200)

    def test_loops_with_late_starts(self):
        late = data(1, 2)
        loop = self.timed(Loop, [n, late], lambda a, b: less(a, 1000 * whole(10)), lambda a, b: [a + 1, b - 1])
        self.assertEqual((loop.many, loop.ends.start), (~Where.since(9900), 9900))
        self.assertEqual(loop.last[1](9950), late(9950) - 50)
        loop = self.timed(Loop, [n, late, 1, 2, 3, 4], lambda *v: less(v[2], 0), None)
        self.assertEqual(loop.last[1], late)

    def test_long_texts(self):
        made = data(1, 2)
        text = made.text
        while len(text) < 900000:
            text = f"({made.text} - {text})"
        f = self.timed(read_formula, text)
        self.assertEqual(f.text, text)
        # made - (made - (made - ..)) is made or 0.
        self.assertIn(f, (made, made - made))
        self.assertEqual(self.timed(read_test, f"not ({made.text} == {made.text})").fails, Where.since(0))

    def test_long_books(self):
        book = Book()
        names = ["".join("abcdefghij"[int(sign)] for sign in f"{k:03}") for k in range(300)]

        def fill():
            for k, name in enumerate(names):
                book.put(name, f"({names[k - 1]} + 1)" if k > 0 else "n")
            book.guard("z", f"({names[0]} <= {names[-1]})")

        self.timed(fill)
        self.assertEqual((len(book), book[names[-1]]), (301, n + 299))
        self.timed(book.put, names[0], "(n * n)")
        self.assertEqual(book[names[-1]], n * n + 299)
        self.assertEqual(self.timed(book.moved, names[0], "(n + 2)"), {name: 0 for name in names})
        lines = book.page.split("\n")
        turned = self.timed(Book.read, "\n".join(lines[-2::-1] + lines[-1:]))
        self.assertEqual((turned.names, turned[names[-1]]), (tuple(names[::-1]), n * n + 299))
        self.assertEqual(len(self.timed(turned.needs, "z")), 300)


if __name__ == "__main__":
    unittest.main()
