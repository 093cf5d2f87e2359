"""Point [51]: formulas and tests told by their texts."""

import unittest
from random import Random

from everyfloor.compare import Test, atmost, less, same, when
from everyfloor.errors import BadPiece, BadText, EveryfloorError, TooFine, TooHigh, TooLate
from everyfloor.formulas import Formula, gcd, greatest, least, unknown, whole
from everyfloor.pieces import Piece
from everyfloor.reading import Reading
from everyfloor.texts import read_formula, read_test
from everyfloor.within import by_data, count, place, total
from tests.grammar import changed, drawn, wrong_at
from tests.twins import FINE, HIGH, LATE, Twins

n = unknown()
ALL_FORMULAS = (
    n, whole(0), whole(-1000), whole(1000), n + 1, 1 - n, -5 * n, n // (n + 3), n % -3, n ** 0, (n + n) ** 6, -n,
    -whole(5), abs(n - 5), gcd(n, 6), least(3, n + 1), greatest(1, 2), (n % 4)(n ** 2), n(n)(whole(5)),
    when(less(n, 5), n, 2 * n - 4), when(~same(n, 0), 1, -1), total(n, n - 1), count(less(n, 3), n),
    place(~less(n, 3), 7), by_data([], [Piece(())]), by_data([None], [None]), by_data([7, None, -3], [Piece((0, 0, 1))]),
    by_data([], [Piece((0, 1), 2), Piece((-1, 1), 2)]), by_data([10 ** 3000], [Piece((-10 ** 3999, 0, 0, 1))]))
ALL_TESTS = (
    less(n, 5), atmost(5, n), same(n * n, 4), ~less(n, 5), ~~less(n, 5), less(n, 5) & ~same(n, 3),
    less(n, 5) | less(1, 2) | same(n, 9), ~(less(n, 5) & less(n, 6)) | ~atmost(n, -n))


class TestReadings(Twins):

    def wrong(self, at, text):
        self.assert_error(BadText, {"at": at}, read_formula, text)

    def wrong_test(self, at, text):
        self.assert_error(BadText, {"at": at}, read_test, text)

    def test_examples(self):
        self.wrong(8, "(n + 1001)")
        self.wrong(6, "(n ** 7)")
        self.wrong(3, "(n < 1)")
        self.wrong(5, "gcd(n)")
        self.wrong(6, "(n + 1")
        self.wrong_test(3, "(n + 1)")
        self.wrong_test(9, "((n < 1) < 2)")

    def test_each_text_is_read_back(self):
        for f in ALL_FORMULAS:
            found = read_formula(f.text)
            self.assertEqual((found, found.text, type(found)), (f, f.text, Formula))
            self.wrong_test(wrong_at(f.text, "T"), f.text)
        for t in ALL_TESTS:
            found = read_test(t.text)
            self.assertEqual((found, found.text, type(found)), (t, t.text, Test))
            self.wrong(wrong_at(t.text, "F"), t.text)

    def test_each_beginning_of_a_text_is_wrong_at_its_end(self):
        for f in ALL_FORMULAS[:-1]:
            for size in range(len(f.text)):
                if wrong_at(f.text[:size], "F") is not None:
                    self.wrong(size, f.text[:size])
        for t in ALL_TESTS:
            for size in range(len(t.text)):
                self.wrong_test(size, t.text[:size])

    def test_integers(self):
        for c in range(-1000, 1001):
            self.assertEqual(read_formula(str(c)), whole(c))
        for text, at in (("1001", 3), ("-1001", 4), ("10000", 4), ("2000", 3), ("00", 1), ("01", 1), ("-0", 1), ("-", 1),
                         ("--1", 1), ("+1", 0), ("1 ", 1), (" 1", 0), ("1_0", 1), ("(5 - -0)", 6), ("\u0661", 0)):
            self.wrong(at, text)

    def test_powers(self):
        for k in range(7):
            self.assertEqual(read_formula(f"(n ** {k})"), n ** k)
        for text, at in (("(n ** 10)", 7), ("(n ** -1)", 6), ("(n ** n)", 6), ("(n ** )", 6), ("(n**2)", 2),
                         ("(n ***2)", 5), ("(n *)", 4), ("(n // 2 ** 3)", 7)):
            self.wrong(at, text)

    def test_words(self):
        for text, at in (
                ("", 0), ("N", 0), ("nn", 1), ("not (n < 1)", 1), ("m", 1), ("min", 3), ("minus", 5), ("minus (n)", 5),
                ("minus()", 6), ("abs", 3), ("at", 2), ("ab", 2), ("ac", 1), ("le", 2), ("lesat(n, 1)", 2), ("total(n)", 7),
                ("gcd(n,1)", 6), ("gcd(n, 1, 2)", 8), ("gcd(n, 1", 8), ("n)", 1), ("when(n, 1, 2)", 6),
                ("when((n < 1), 1)", 15), ("when((n + 1), 1, 1)", 8), ("count(n, 1)", 7), ("place(not n, 1)", 11),
                ("given", 5), ("abs(n))", 6), ("x", 0), ("items", 0), ("(n  + 1)", 3), ("(n +1)", 4), ("(n + 1 )", 6),
                ("( n + 1)", 1), ("(n)", 2), ("(n and 1)", 3), ("(n mod1)", 6), ("(n % 2)", 3), ("(n = 2)", 3), ("n\n", 1)):
            self.wrong(at, text)
            self.assertEqual(wrong_at(text, "F"), at)

    def test_words_of_tests(self):
        for text, at in (
                ("", 0), ("n", 1), ("no", 2), ("not", 3), ("not ", 4), ("not n", 5), ("not(n < 1)", 3), ("(n)", 2),
                ("(n < 1", 6), ("(n <  1)", 5), ("(n = 1)", 4), ("(n =< 1)", 4), ("(n >= 1)", 3), ("(n <== 1)", 5),
                ("((n < 1))", 8), ("((n < 1) and 2)", 13), ("((n < 1) and n)", 14), ("((n < 1) or not)", 15),
                ("(n or (n < 1))", 3), ("((n + 1) and (n < 1))", 9), ("(not n < 1)", 6), ("(not (n < 1) < 1)", 13),
                ("(no + 1)", 3), ("((n < 1) == (n < 1))", 9), ("(nn < 1)", 2), ("((n < 1) mod 2)", 9), ("true", 0)):
            self.wrong_test(at, text)
            self.assertEqual(wrong_at(text, "T"), at)

    def test_data(self):
        for text, made in (
                ("given(; 0/5 2/4, 3/6 4/8)", "given(; 0 1/2, 1/2 1/2)"), ("given(0, 1; 0 1)", "given(; 0 1)"), ("given(5; 5)", "given(; 5)"),
                ("given(none; none, none)", "given(; none)"), ("given(; 4/2 0 -3/3)", "given(; 2 0 -1)"),
                ("given(-7, 0; 0 0 0)", "given(-7; 0)"), ("given(; 12/10)", None), ("given(; 10/10)", "given(; 1)"),
                ("given(" + "9" * 4000 + "; -" + "8" * 4000 + "/2)", "given(" + "9" * 4000 + "; -" + "4" * 4000 + ")")):
            if made is None:
                self.assert_error(BadPiece, {"index": 0}, read_formula, text)
            else:
                self.assertEqual(read_formula(text).text, made)

    def test_wrong_data(self):
        for text, at in (
                ("given()", 6), ("given(;)", 7), ("given(; )", 8), ("given(1)", 7), ("given(1,2; 0)", 8), ("given(01; 0)", 7),
                ("given(-0; 0)", 7), ("given(1, ; 0)", 9), ("given(non; 0)", 9), ("given(1/2; 0)", 7), ("given(n; 0)", 7),
                ("given(x; 0)", 6), ("given(; 1/1)", 11), ("given(; 1/0)", 10), ("given(; 1/-2)", 10), ("given(; 1/02)", 10),
                ("given(; 1/n)", 10), ("given(; 1  2)", 10), ("given(; none 1)", 12), ("given(; 1 none)", 10), ("given(; 1, )", 11),
                ("given(; 1,2)", 10), ("given(; 0 01)", 11), ("given(; 1/2/3)", 11), ("given(; 1; 2)", 9), ("given(; 1", 9),
                ("given(; 1/2", 11), ("given(; 1/1", 11), ("given(; -/2)", 9), ("given(1 2; 0)", 7)):
            self.wrong(at, text)
            self.assertEqual(wrong_at(text, "F"), at)

    def test_errors_of_what_is_made(self):
        for text, error, fields in (
                ("(n mod (700 + 21))", TooFine, FINE), ("((n ** 6) ** 2)", TooHigh, HIGH),
                ("abs((n - (1000 * 11)))", TooLate, LATE), ("given(; 1/2)", BadPiece, {"index": 0}),
                ("given(; 0 0 0 0 0 0 0 0 0 1)", TooHigh, HIGH), ("when((n < 1), 1, given(; 1, 1/3))", BadPiece, {"index": 1}),
                ("at(n, (n mod (721 * 1)))", TooFine, FINE)):
            self.assert_error(error, fields, read_formula, text)
            self.assert_error(error, fields, read_test, f"({text} == 0)")

    def test_the_parts_are_made_from_left_to_right_and_the_inner_ones_first(self):
        fine, high, late = "(n mod (700 + 21))", "((n ** 6) ** 2)", "abs((n - (1000 * 11)))"
        for one, other, error, fields in ((fine, high, TooFine, FINE), (high, late, TooHigh, HIGH), (late, fine, TooLate, LATE)):
            for text in (f"({one} + {other})", f"gcd({one}, {other})", f"at({one}, {other})", f"total({one}, {other})",
                         f"count(({one} < {other}), 3)", f"when((1 < 2), {one}, {other})", f"when(({one} < n), 1, {other})",
                         f"(abs(minus({one})) - {other})", f"(({one} ** 2) + {other})"):
                self.assert_error(error, fields, read_formula, text)
                self.assert_error(error, fields, read_test, f"(not ({text} < 1) and ({other} == 0))")
        self.assert_error(TooHigh, HIGH, read_formula, "gcd(((n ** 6) ** 2), (n mod (700 + 21)))")
        # The outer one would be refused by its period, the inner one by its degree.
        self.assert_error(TooHigh, HIGH, read_formula, "((n mod 25) + (((n ** 6) ** 2) * (n mod 36)))")

    def test_a_wrong_text_is_wrong_also_where_it_is_refused_further_on(self):
        for refused in ("(n mod (700 + 21))", "((n ** 6) ** 2)", "given(; 1/2)"):
            self.wrong(len(refused), refused + " ")
            self.wrong(len(refused) + 4, f"gcd({refused}; 1)")
            self.wrong(len(refused) + 5, f"(1 + {refused}")
            self.wrong_test(len(refused) + 4, f"({refused} < x)")
        self.wrong_test(4, "(n <x ((n ** 6) ** 2))")

    def test_brackets_and_not_nested_deep(self):
        for deep in (1, 59, 60):
            text = "(" * deep + "n" + " + 1)" * deep
            self.assertEqual(read_formula(text).text, text)
            self.assertEqual(read_formula(text), n + whole(deep))
            self.wrong(len(text) - 1, text[:-1])
            self.wrong(deep, "(" * deep + ")")
            text = "not " * deep + "(n < 3)"
            self.assertEqual((read_test(text).text, read_test(text)), (text, less(n, 3) if deep % 2 == 0 else ~less(n, 3)))
            self.wrong_test(4 * deep + 6, text[:-1])
            text = "(" * deep + "(n < 3)" + " and not (n == 9))" * deep
            self.assertEqual(read_test(text).text, text)
            text = "(not " * deep + "(n < 3)" + " or (n == 9))" * deep
            self.assertEqual(read_test(text).text, text)
            text = "abs(" * deep + "n" + ")" * deep
            self.assertEqual(read_formula(text).text, text)
            text = "when((n < 3), 1, " * deep + "n" + ")" * deep
            self.assertEqual(read_formula(text).text, text)

    def test_drawn_texts(self):
        draw = Random(51)
        errors = set()
        for _ in range(400):
            kind = draw.choice("FT")
            text = drawn(draw, kind, draw.randrange(4))
            for other in (text, changed(draw, text), changed(draw, changed(draw, text))):
                for kind, read in (("F", read_formula), ("T", read_test)):
                    at = wrong_at(other, kind)
                    if at is not None:
                        self.assert_error(BadText, {"at": at}, read, other)
                        continue
                    try:
                        made = read(other)
                    except EveryfloorError as error:
                        errors.add(type(error))
                    else:
                        self.assertTrue(made.text == other or "given" in other)
        self.assertGreaterEqual({BadPiece, TooFine, TooHigh, TooLate}, errors)

    def test_drawn_texts_with_names(self):
        draw = Random(52)
        for _ in range(400):
            text = drawn(draw, draw.choice("FT"), draw.randrange(4), True)
            for other in (text, changed(draw, text), changed(draw, changed(draw, text))):
                for kind, word in (("F", "formula"), ("T", "test")):
                    at = wrong_at(other, kind, True)
                    if at is None:
                        self.assertEqual(Reading(other, word, True).text, other)
                    else:
                        self.assert_error(BadText, {"at": at}, Reading, other, word, True)

    def test_long_texts(self):
        text = "n"
        for k in range(50):
            text = f"(given({', '.join(map(str, range(k * 40)))}; 0 1) + {text})"
        self.assertEqual(read_formula(text).text.count("n"), 51)
        self.assertEqual(read_formula(text), 51 * n)


if __name__ == "__main__":
    unittest.main()
