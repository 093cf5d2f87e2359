"""How integers, pieces and data are written."""

from math import gcd

# Python may refuse to write out integers with more figures than some thousands.
FIGURES = 64
LIMIT = 10 ** 64


def integer_text(number):
    """The digits of an integer of any size, - ahead of a negative one."""
    if number < 0:
        return "-" + integer_text(-number)
    parts = []
    left = number
    while left >= LIMIT:
        left, part = divmod(left, LIMIT)
        parts.append(str(part).zfill(FIGURES))
    parts.append(str(left))
    return "".join(parts[::-1])


def given_text(below, pieces):
    """The text of the formula that has these data."""
    values = ", ".join(["none" if value is None else str(value) if -LIMIT < value < LIMIT else integer_text(value)
                        for value in below])
    return f"given({values}; " + ", ".join([piece_text(piece) for piece in pieces]) + ")"


def piece_text(piece):
    if piece is None:
        return "none"
    if len(piece.row) == 0:
        return "0"
    if piece.under == 1:
        return " ".join([integer_text(number) for number in piece.row])
    return " ".join([_fraction_text(number, piece.under) for number in piece.row])


def _fraction_text(number, under):
    shared = gcd(number, under)
    if under == shared:
        return integer_text(number // shared)
    return integer_text(number // shared) + "/" + integer_text(under // shared)
