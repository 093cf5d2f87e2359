"""From which n on pieces keep to their signs."""

from everyfloor.errors import TooLate
from everyfloor.integers import row_stretched
from everyfloor.signs import signs_of_row
from everyfloor.wheres import MOST_START


def signs_on(row, m, r, low):
    """The signs of the row at the n from low on that have the rest r by m: (first, last, sign) of t, n = m * t + r."""
    return signs_of_row(row_stretched(row, m, r), first_on(m, r, low))


def first_on(m, r, low):
    """The least t with m * t + r >= low."""
    return -((r - low) // m)


def last_other(row, m, r, low, signs):
    """The greatest n from low on, with the rest r by m, where the sign of the row is not one of signs; -1 if none is.

    For all great n the sign is one of signs.
    """
    for _, last, sign in signs_on(row, m, r, low)[::-1]:
        if sign not in signs:
            return m * last + r
    return -1


def start_of_signs(low, pieces, signs):
    """The least start from low on of the row of pieces having no sign but signs; for great n they have no other."""
    start = low
    for r, piece in enumerate(pieces):
        if piece is not None:
            start = behind(last_other(piece.row, len(pieces), r, start, signs), start)
    return start


def behind(last, start):
    """The start, or the number behind last if that is greater; TooLate if it is too great."""
    if last >= MOST_START:
        raise TooLate(MOST_START)
    return last + 1 if last >= start else start


def merged(ones, others):
    """The stretches of two lists of signs that begin at one place: (first, last, sign of ones, sign of others)."""
    found = []
    last = None
    i = len(ones) - 1
    j = len(others) - 1
    while i >= 0:
        first = max(int(ones[i][0]), others[j][0])
        found.append((first, last, ones[i][2], others[j][2]))
        last = first - 1
        i = i - 1 if ones[i][0] == first else i
        j = j - 1 if others[j][0] == first else j
    return found[::-1]
