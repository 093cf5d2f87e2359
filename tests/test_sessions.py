"""The blocks under "Sessions" at the end of the document, as they are written there."""

import doctest
import unittest

SESSIONS = ('''
>>> from everyfloor.formulas import gcd, unknown
>>> from everyfloor.pieces import Piece
>>> n = unknown()
>>> f = n * n // (n + 3)
>>> [f(6), f(7), f.start, f.period, f.below]
[4, 4, 7, 1, (0, 0, 0, 1, 2, 3, 4)]
>>> [f.pieces == (Piece((-3, 1)),), f(10 ** 30), f.text]
[True, 999999999999999999999999999997, '((n * n) // (n + 3))']
>>> g = gcd(n * n + 1, n + 1)
>>> [g.period, g.start, g(10 ** 30), g(10 ** 30 + 1)]
[2, 0, 1, 2]
''', '''
>>> from everyfloor.claims import alike, solved
>>> from everyfloor.formulas import unknown
>>> from everyfloor.compare import less, same, when
>>> from everyfloor.wheres import Where
>>> n = unknown()
>>> same((n * n + 7) % (n + 3), 0).holds == Where.of([1, 5, 13])
True
>>> [alike((-n) // 2, -(n // 2)), alike((n + 7) // 8 * 8, n + -n % 8)]
[1, None]
>>> when(less(n, 5), n, 2 * n - 4).start
4
>>> solved(n * n - 9 * n, 10 ** 30 - 9 * 10 ** 15)[1]
(1000000000000000,)
''', '''
>>> from everyfloor.formulas import unknown
>>> from everyfloor.loops import Loop
>>> from everyfloor.compare import same
>>> n = unknown()
>>> euclid = Loop([n * n, n + 2], lambda a, b: ~same(b, 0), lambda a, b: [b, a % b])
>>> [euclid.rounds(k) for k in range(8)]
[1, 2, 1, 3, 3, 4, 2, 3]
>>> [euclid.rounds.period, euclid.rounds.start, euclid.rounds(10 ** 60 + 1)]
[4, 3, 4]
''')


class TestSessions(unittest.TestCase):

    def test_sessions(self):
        for number, session in enumerate(SESSIONS):
            test = doctest.DocTestParser().get_doctest(session, {}, f"session {number}", None, None)
            self.assertEqual(doctest.DocTestRunner().run(test).failed, 0)


if __name__ == "__main__":
    unittest.main()
