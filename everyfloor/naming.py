"""Names that stand for formulas in texts."""

LETTERS = "abcdefghijklmnopqrstuvwxyz"
MOST_LETTERS = 12
# Words with a meaning of their own.
NO_NAMES = (
    "n", "minus", "abs", "gcd", "least", "greatest", "at", "when", "total", "count", "place", "given", "not", "and",
    "or", "none", "always", "mod")


def is_name(value):
    """True if the value, which may be any, is a name."""
    if not isinstance(value, str) or value in NO_NAMES:
        return False
    return 1 <= len(value) <= MOST_LETTERS and all([letter in LETTERS for letter in value])
