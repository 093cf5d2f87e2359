"""Texts of formulas and tests, read from left to right; what is wrong is found at the least place.

A text becomes the row of steps that make its formula or its test: each step is a word and a value, and stands behind
the steps of its parts.
"""

from math import lcm

from everyfloor.errors import BadText
from everyfloor.formulas import MOST_WHOLE
from everyfloor.naming import LETTERS, MOST_LETTERS, is_name
from everyfloor.pieces import Piece

FORMULA = ("formula",)
TEST = ("test",)
EITHER = ("formula", "test")

DIGITS = ("0", "1", "2", "3", "4", "5", "6", "7", "8", "9")
POWERS = ("0", "1", "2", "3", "4", "5", "6")
OF_FORMULAS = (" + ", " - ", " * ", " // ", " mod ", " ** ")
COMPARISONS = (" < ", " <= ", " == ")
OF_TESTS = (" and ", " or ")
# The kinds of the parts that stand behind a word.
PARTS = {
    "minus(": ("formula",), "abs(": ("formula",), "gcd(": ("formula", "formula"), "least(": ("formula", "formula"),
    "greatest(": ("formula", "formula"), "at(": ("formula", "formula"), "when(": ("test", "formula", "formula"),
    "total(": ("formula", "formula"), "count(": ("test", "formula"), "place(": ("test", "formula")}
FORMULA_WORDS = (
    "n", "(", "minus(", "abs(", "gcd(", "least(", "greatest(", "at(", "when(", "total(", "count(", "place(", "given(",
    "-", "0", "1", "2", "3", "4", "5", "6", "7", "8", "9")
TEST_WORDS = ("(", "not ")


class Reading:
    """A text of the kind "formula" or "test": its steps, and the names in it with the places at which they begin."""

    def __init__(self, text, kind, with_names):
        self.text = text
        self.kind = kind
        self.with_names = with_names
        self.at = 0
        self.steps = []
        self.names = []
        self.begins = []
        self.read_part((kind,))
        if self.at < len(text):
            raise BadText(self.at)

    def read_part(self, kinds):
        """Reads a formula or a test, one of the kinds, and returns which it was."""
        begin = self.at
        word = self.choose(self.first_words(kinds))
        if word == "(":
            return self.read_bracket(kinds)
        if word == "not ":
            self.read_part(TEST)
            self.steps.append(("not", None))
            return "test"
        if word in PARTS:
            self.read_parts(PARTS[word])
            self.steps.append((word[:-1], None))
        elif word == "given(":
            self.steps.append(("given", self.read_data()))
        elif word == "n":
            self.steps.append(("n", None))
        elif is_name(word):
            self.names.append(word)
            self.begins.append(begin)
            self.steps.append(("name", word))
        else:
            self.at = begin
            self.steps.append(("integer", self.read_integer(MOST_WHOLE)))
        return "formula"

    def read_bracket(self, kinds):
        """Reads what stands behind an opening bracket and returns whether it was a formula or a test."""
        inner = self.read_part(EITHER if "test" in kinds else FORMULA)
        if inner == "test":
            word = self.choose(OF_TESTS)
        elif kinds == TEST:
            word = self.choose(COMPARISONS)
        else:
            word = self.choose(OF_FORMULAS + COMPARISONS if "test" in kinds else OF_FORMULAS)
        power = None
        if word == " ** ":
            power = int(self.choose(POWERS))
        else:
            self.read_part((inner,))
        self.choose((")",))
        self.steps.append((word.strip(), power))
        return "formula" if word in OF_FORMULAS else "test"

    def read_parts(self, kinds):
        """Reads the parts of the kinds and the bracket that closes behind them."""
        for number, kind in enumerate(kinds):
            if number > 0:
                self.choose((", ",))
            self.read_part((kind,))
        self.choose((")",))

    def read_data(self):
        """Reads what stands between the brackets of given: the values and the pieces."""
        below = []
        begin = self.at
        word = self.choose(("; ", "none", "-") + DIGITS)
        while word != "; ":
            self.at = begin
            below.append(self.read_member())
            word = self.choose((", ", "; "))
            begin = self.at
        pieces = []
        while word != ")":
            piece, word = self.read_piece()
            pieces.append(piece)
        return below, pieces

    def read_member(self):
        """Reads an integer of any size, or none as None."""
        begin = self.at
        if self.choose(("none", "-") + DIGITS) == "none":
            return None
        self.at = begin
        return self.read_integer(None)

    def read_piece(self):
        """Reads a piece, or none as None, and what stands behind it: a comma or the bracket."""
        over = self.read_member()
        if over is None:
            return None, self.choose((", ", ")"))
        fractions = []
        while True:
            word = self.choose((" ", "/", ", ", ")"))
            under = 1
            if word == "/":
                under = self.read_divisor()
                word = self.choose((" ", ", ", ")"))
            fractions.append((over, under))
            if word != " ":
                return _piece_of(fractions), word
            over = self.read_integer(None)

    def read_integer(self, most):
        """Reads an integer: of any size, or from -most to most."""
        first = self.choose(("-",) + DIGITS)
        if first == "-":
            return -self.read_digits(self.choose(DIGITS[1:]), most)
        return self.read_digits(first, most)

    def read_divisor(self):
        """Reads an integer from 2 on."""
        first = self.choose(DIGITS[1:])
        if first == "1":
            first = first + self.choose(DIGITS)
        return self.read_digits(first, None)

    def read_digits(self, first, most):
        """Reads on, behind the first digits, as long as the number is not greater than most."""
        number = int(first)
        while number > 0 and self.at < len(self.text) and self.text[self.at] in DIGITS:
            longer = number * 10 + int(self.text[self.at])
            if most is not None and longer > most:
                break
            number = longer
            self.at = self.at + 1
        return number

    def first_words(self, kinds):
        """The words with which a part of the kinds may begin at this place."""
        if kinds == TEST:
            return TEST_WORDS
        words = FORMULA_WORDS + TEST_WORDS if "test" in kinds else FORMULA_WORDS
        letters = self.next_letters() if self.with_names else ""
        if letters == "":
            return words
        # A word that is no name is at least the beginning of one.
        return words + (letters if is_name(letters) else letters + "a",)

    def next_letters(self):
        end = self.at
        while end < len(self.text) and self.text[end] in LETTERS:
            end += 1
        if end - self.at > MOST_LETTERS:
            raise BadText(self.at + MOST_LETTERS)
        return self.text[self.at:end]

    def with_word(self, name, new):
        """The text with the word new in the place of the name."""
        parts = []
        end = 0
        for begin, word in zip(self.begins, self.names):
            parts.append(self.text[end:begin])
            parts.append(new if word == name else word)
            end = begin + len(word)
        parts.append(self.text[end:])
        return "".join(parts)

    def choose(self, words):
        """Reads one of the words, and returns it."""
        most = 0
        chosen = None
        for word in words:
            size = _alike(self.text, self.at, word)
            if size > most or size == most and size == len(word):
                most = size
                chosen = word if size == len(word) else None
        self.at = self.at + most
        if chosen is None:
            raise BadText(self.at)
        return chosen


def _alike(text, at, word):
    """How many characters of the word, from its first one on, stand in the text at the place."""
    if text.startswith(word, at):
        return len(word)
    size = 0
    while text[at + size:at + size + 1] == word[size]:
        size += 1
    return size


def _piece_of(fractions):
    """The piece whose coefficients are the (over, under)."""
    shared = 1
    for _, under in fractions:
        shared = lcm(shared, under)
    return Piece([over * (shared // under) for over, under in fractions], shared)
