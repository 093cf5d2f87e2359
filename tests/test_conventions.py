"""Points [1] and [2], and the interface: names, arguments and kinds of values."""

import inspect
import unittest

from everyfloor import backs, books, claims, compare, formulas, loops, pieces, signs, texts, wheres, within
from everyfloor.backs import simplest, told_back
from everyfloor.books import Book
from everyfloor.claims import (
    alike, always, common, highest, holds_from, least_from, lowest, reached, remainders, solved)
from everyfloor.compare import Test, atmost, less, same, when
from everyfloor.errors import BadMember, BadNumber, BadPiece, BadRow, BadTruth, BadWhole, NoBound, TooFine
from everyfloor.formulas import Formula, gcd, greatest, least, unknown, whole
from everyfloor.loops import Loop
from everyfloor.pieces import Piece
from everyfloor.signs import all_with, last_above, signs_of
from everyfloor.texts import read_formula, read_test
from everyfloor.wheres import Where
from everyfloor.within import by_data, count, place, total
from tests.checks import Checks

FILES = {
    signs: {"signs_of": "(p, low=0)", "last_above": "(p)", "all_with": "(p, value)"},
    formulas: {
        "unknown": "()", "whole": "(c)", "gcd": "(f, g)", "least": "(f, g)", "greatest": "(f, g)"},
    compare: {"less": "(f, g)", "atmost": "(f, g)", "same": "(f, g)", "when": "(t, f, g)"},
    within: {"total": "(f, g)", "count": "(t, g)", "place": "(t, g)", "by_data": "(below, pieces)"},
    claims: {
        "alike": "(f, g)", "always": "(t)", "holds_from": "(t)", "least_from": "(f, v)", "solved": "(f, v)",
        "reached": "(f)", "lowest": "(f, bound=-1000000)", "highest": "(f, bound=1000000)", "common": "(f)",
        "remainders": "(f, m)"},
    backs: {"told_back": "(values, start, period, degree)", "simplest": "(values)"},
    texts: {"read_formula": "(text)", "read_test": "(text)"},
}
SIGNATURES = {
    **FILES,
    Piece: {
        "__init__": "(self, row, under=1)", "__call__": "(self, n)", "divided": "(self, q)",
        "stretched": "(self, m, r)", "through": "(cls, place, values)"},
    Where: {
        "__init__": "(self, below, rests)", "of": "(cls, members)", "since": "(cls, low)", "rest": "(cls, m, r)",
        "first_from": "(self, n)", "last_to": "(self, n)", "how_many": "(self, low, high)", "member": "(self, k)"},
    Formula: {"__call__": "(self, n)"},
    Test: {"__call__": "(self, n)"},
    Loop: {"__init__": "(self, begin, test, step, most=100)"},
    Book: {
        "__init__": "(self)", "put": "(self, name, text)", "guard": "(self, name, text)", "drop": "(self, name)",
        "rename": "(self, name, new)", "spelled": "(self, name)", "needs": "(self, name)",
        "moved": "(self, name, text)", "undo": "(self)", "past": "(self, k)", "attempt": "(self, action)",
        "read": "(cls, page)"},
}
# The file under which the interface lists each class.
CLASSES = (
    (pieces, Piece), (wheres, Where), (formulas, Formula), (compare, Test), (loops, Loop), (books, Book))
OPERATORS = {
    Piece: ("eq", "add", "radd", "sub", "rsub", "mul", "rmul", "neg", "pow"),
    Where: ("eq", "contains", "or", "and", "sub", "xor", "invert", "le", "lt", "ge", "gt", "bool"),
    Formula: ("call", "eq", "add", "radd", "sub", "rsub", "mul", "rmul", "floordiv", "rfloordiv", "mod", "rmod", "pow",
              "neg", "abs"),
    Test: ("call", "eq", "invert", "and", "or"),
    Book: ("getitem", "contains", "len", "eq"),
}


class TestInterface(unittest.TestCase):

    def test_each_name_is_defined_in_its_file_or_class(self):
        for file, kind in CLASSES:
            self.assertIs(vars(file)[kind.__name__], kind)
            self.assertEqual(kind.__module__, file.__name__)
        for file, names in FILES.items():
            for name in names:
                self.assertEqual(vars(file)[name].__module__, file.__name__)
                self.assertTrue(inspect.isfunction(vars(file)[name]))
        for owner, names in OPERATORS.items():
            for name in names:
                self.assertIn(f"__{name}__", vars(owner))

    def test_the_arguments_are_those_of_the_document(self):
        for owner, signatures in SIGNATURES.items():
            for name, signature in signatures.items():
                function = vars(owner)[name]
                plain = getattr(function, "__func__", function)
                self.assertEqual(str(inspect.signature(plain)), signature, name)

    def test_makers_are_class_methods(self):
        for owner, names in ((Piece, ("through",)), (Where, ("of", "since", "rest")), (Book, ("read",))):
            for name in names:
                self.assertIsInstance(vars(owner)[name], classmethod)

    def test_arguments_by_name(self):
        p = Piece(row=[1, 2], under=3)
        self.assertEqual(p, Piece([1, 2], 3))
        self.assertEqual(p(n=1), 1)
        self.assertEqual(p.divided(q=p), (Piece((1,)), Piece(())))
        self.assertEqual(p.stretched(r=1, m=3), Piece((1, 2)))
        self.assertEqual(Piece.through(values=[1, 2], place=1), Piece((0, 1)))
        self.assertEqual(signs_of(low=1, p=p), [(1, None, 1)])
        self.assertIsNone(last_above(p=p))
        self.assertEqual(all_with(value=1, p=p), [1])
        w = Where(rests=[False, True], below=[True])
        self.assertEqual(w, Where([True], [False, True]))
        self.assertEqual(Where.of(members=[0]) | Where.rest(r=1, m=2), w)
        self.assertEqual(Where.since(low=0), w | ~w)
        self.assertEqual([w.first_from(n=2), w.last_to(n=2), w.how_many(high=4, low=1), w.member(k=2)], [3, 1, 2, 3])

    def test_arguments_of_formulas_by_name(self):
        n = unknown()
        t = less(g=5, f=n)
        self.assertEqual((t, t(n=4), n(n=7), whole(c=3)(n=0)), (less(n, 5), True, 7, 3))
        self.assertEqual((gcd(g=n, f=6), least(g=n, f=6), greatest(g=n, f=6)), (gcd(6, n), least(6, n), greatest(6, n)))
        self.assertEqual((atmost(g=n, f=6), same(g=n, f=6), when(g=1, t=t, f=n)),
                         (atmost(6, n), same(6, n), when(t, n, 1)))
        self.assertEqual((total(g=4, f=n), count(g=4, t=t), place(g=4, t=t)), (total(n, 4), count(t, 4), place(t, 4)))
        self.assertEqual(by_data(pieces=[Piece((1,))], below=[2])(0), 2)
        self.assertEqual([alike(g=n, f=0), always(t=t), holds_from(t=t), least_from(v=3, f=n), solved(v=3, f=n)[1],
                          reached(f=3), lowest(f=n, bound=3), highest(bound=3, f=-n), common(f=6), remainders(m=2, f=n)],
                         [1, 5, None, 3, (3,), (3,), (0, 0), (0, 0), 6, (0, 1)])

    def test_arguments_of_loops_texts_and_books_by_name(self):
        n = unknown()
        f = told_back(degree=1, period=2, start=1, values=[5, 0, 1, 1, 2, 2, 3])
        self.assertEqual((f.start, f.period, simplest(values=[5, 1, 1])), (1, 2, by_data([5], [Piece((1,))])))
        loop = Loop(most=3, step=lambda a: [a - 1], test=lambda a: less(0, a), begin=[n])
        self.assertEqual((loop.most, loop.many), (3, Where.since(4)))
        self.assertEqual((read_formula(text="(n + 1)"), read_test(text="(n < 1)")), (n + 1, less(n, 1)))
        book = Book.read(page="a = n")
        book.put(text="(a + 1)", name="b")
        book.guard(text="(a < b)", name="c")
        book.rename(new="d", name="c")
        self.assertEqual((book.spelled(name="d"), book.needs(name="d")), ("(a < b)", ("a", "b")))
        self.assertEqual(book.moved(text="(a + 2)", name="b"), {"b": 0})
        book.drop(name="d")
        self.assertEqual((len(book.past(k=1)), book.attempt(action=len)), (1, 5))

    def test_attributes_are_there_when_the_object_is(self):
        self.assertLessEqual({"row", "under"}, set(vars(Piece((1,)))))
        self.assertLessEqual({"below", "rests", "start", "period"}, set(vars(Where([], [True]))))
        n = unknown()
        for f in (n, whole(3), n + 1, gcd(n, 6), when(less(n, 5), n, 1), n(n), total(n, n), by_data([], [None])):
            self.assertLessEqual({"below", "pieces", "start", "period", "undefined", "text"}, set(vars(f)))
        for t in (less(n, 5), ~less(n, 5), same(n, 5) & atmost(n, 7), same(n, 5) | atmost(n, 7)):
            self.assertLessEqual({"holds", "fails", "text"}, set(vars(t)))
        loop = Loop([n], lambda a: less(0, a), lambda a: [a - 1])
        self.assertLessEqual({"most", "rounds", "last", "ends", "many", "broken"}, set(vars(loop)))
        for book in (Book(), Book.read("a = n"), Book().past(0)):
            self.assertLessEqual({"names", "guards"}, set(vars(book)))


class TestConventions(Checks):

    def test_defaults_may_be_left_out(self):
        n = unknown()
        self.assertEqual(Piece((1, 2)), Piece((1, 2), 1))
        self.assertEqual(signs_of(Piece((-1, 1))), signs_of(Piece((-1, 1)), 0))
        self.assertEqual(lowest(n), lowest(n, -10 ** 6))
        self.assertEqual(highest(-n), highest(-n, 10 ** 6))
        self.assert_error(NoBound, {"n": 10 ** 6 + 1}, lowest, -n)
        self.assert_error(NoBound, {"n": 10 ** 6 + 1}, highest, n)
        self.assertEqual(Loop([n], lambda a: less(0, a), lambda a: [a - 1]).many, Where.since(101))

    def test_lists_and_tuples_in_the_place_of_each_other(self):
        self.assertEqual(Piece([1, 2], 3), Piece((1, 2), 3))
        self.assertEqual(Piece.through(0, [1, 2]), Piece.through(0, (1, 2)))
        self.assertEqual(Where([True], (False, True)), Where((True,), [False, True]))
        self.assertEqual(Where.of([1, 2]), Where.of((1, 2)))

        values = [5, 0, 1, 1, 2, 2, 3]
        self.assertEqual(told_back(values, 1, 2, 1), told_back(tuple(values), 1, 2, 1))
        self.assertEqual(simplest(values).text, simplest(tuple(values)).text)
        self.assertEqual(by_data([1, None], [Piece((1,)), None]), by_data((1, None), (Piece((1,)), None)))

    def test_no_argument_is_changed(self):
        row, values, below, rests, members = [2, 4, 0], [1, 4, 9], [True, False, False], [False, False], [5, 1]
        Piece(row, 6)
        Piece.through(5, values)
        Where(below, rests)
        Where.of(members)
        self.assertEqual((row, values, below, rests, members),
                         ([2, 4, 0], [1, 4, 9], [True, False, False], [False, False], [5, 1]))

    def test_later_changes_to_arguments_have_no_effect(self):
        row, below, rests, members = [1, 2], [False, True], [True, False], [5, 1]
        p, w, few = Piece(row), Where(below, rests), Where.of(members)
        for given in (row, below, rests, members):
            given.clear()
        self.assertEqual(p, Piece((1, 2)))
        self.assertEqual(w, Where((False, True), (True, False)))
        self.assertEqual(few, Where.of([1, 5]))

    def test_calls_change_no_object(self):
        p, q, v, w = Piece((1, 2), 3), Piece((4, 0, 1), 5), Where.rest(3, 1), Where.of([4, 10])
        kept = [dict(vars(thing)) for thing in (p, q, v, w)]
        for _ in (p + q, p - q, p * q, -p, p ** 3, q.divided(p), p.stretched(2, 1), p.is_whole, p.end, p.degree,
                  signs_of(p), last_above(p), all_with(p, 1), v | w, v & w, v - w, v ^ w, ~v, v <= w, v < w, 4 in v,
                  bool(v), v.least, v.size, v.first_from(7), v.last_to(7), v.how_many(0, 50), v.member(3)):
            pass
        self.assertEqual([vars(thing) for thing in (p, q, v, w)], kept)

    def test_calls_change_no_formula_and_no_test(self):
        n = unknown()
        f, t = n * n // (n + 3) - n % 4, less(n % 5, n // 2)
        kept = [dict(vars(thing)) for thing in (n, f, t)]
        for _ in (f + n, 3 - f, f * f, f // n, f % n, -f, abs(f), f ** 3, gcd(f, n), least(f, 2), greatest(2, f), f(7),
                  f(n), f == n, t(3), ~t, t & t, t | t, t == t, when(t, f, n), total(f, n), count(t, f), place(t, f),
                  alike(f, n), always(t), holds_from(t), least_from(f, 2), solved(f, 2), reached(f), lowest(f),
                  common(f), remainders(f, 7)):
            pass
        self.assert_error(NoBound, {"n": 1004}, highest, f, 999)
        self.assertEqual([vars(thing) for thing in (n, f, t)], kept)
        below, row = [1, 2], [Piece((1, 2)), None]
        by_data(below, row)
        self.assert_error(BadPiece, {"index": 0}, by_data, below, [Piece((1,), 2)])
        self.assertEqual((below, row), ([1, 2], [Piece((1, 2)), None]))

    def test_a_call_that_raises_an_error_changes_nothing(self):
        row, below = [1, None], [True, None]
        self.assert_error(BadRow, {"index": 1}, Piece, row)
        self.assert_error(BadTruth, {"index": 1}, Where, below, [True])
        self.assertEqual((row, below), ([1, None], [True, None]))
        p, v, w = Piece((1, 2)), Where.rest(25, 0), Where.rest(36, 0)
        kept = [dict(vars(thing)) for thing in (p, v, w)]
        self.assert_error(BadNumber, {"number": 7}, lambda: p ** 7)
        self.assert_error(TooFine, {"most": 720}, lambda: v & w)
        self.assertEqual([vars(thing) for thing in (p, v, w)], kept)

    def test_objects_of_different_kinds_are_not_equal(self):
        p, w = Piece(()), Where.of([])
        self.assertFalse(p == w)
        self.assertFalse(w == p)
        loop = Loop([1], lambda a: less(a, 1), None)
        things = [Piece((1,)), Where.of([1]), whole(1), same(1, 1), loop, Book(), 1, True, None, "", (), {}]
        for k, one in enumerate(things[:6]):
            self.assertEqual([one == other for other in things], [j == k for j in range(12)])
            self.assertEqual([other == one for other in things], [j == k for j in range(12)])

    def test_true_and_false_are_no_integers(self):
        self.assert_error(BadRow, {"index": 0}, Piece, [True])
        self.assert_error(BadNumber, {"number": True}, all_with, Piece((1,)), True)
        self.assertNotIn(True, Where.since(0))
        self.assert_error(BadWhole, {"value": True}, lambda: unknown() + True)
        self.assert_error(BadMember, {"index": 0}, simplest, [False])
        self.assert_error(BadNumber, {"number": False}, Book().past, False)


if __name__ == "__main__":
    unittest.main()
