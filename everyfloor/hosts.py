"""Functions of a place k, and what a formula follows that puts the values of another formula in the place of k."""

from everyfloor.errors import TooLate
from everyfloor.integers import row_product, row_sum, value_at
from everyfloor.pieces import Piece
from everyfloor.rows import check_degree, gives, later_start, least_form, repeated, values_of_piece, values_to
from everyfloor.signs import signs_of_row
from everyfloor.steady import behind, first_on, last_other, merged
from everyfloor.wheres import MOST_START


class Host:
    """A function of all integers k: low below 0, below[k] for the first k from 0 on, then pieces[k % len(pieces)].

    low is a piece, or None as everywhere else for undefined.
    """

    def __init__(self, low, below, pieces):
        self.low = low
        self.below = below
        self.pieces = pieces

    def given(self, k):
        """The value at k, an integer or None."""
        if 0 <= k < len(self.below):
            return self.below[k]
        return value_on(self.low if k < 0 else self.pieces[k % len(self.pieces)], k)


def value_on(piece, k):
    """The value of a piece where it is an integer; None for None."""
    return None if piece is None else value_at(piece.row, k) // piece.under


def placed(host, guest, rests, m):
    """(below, pieces) of the function whose value at n is that of the host at the value of the formula guest.

    rests is the formula of the rests of guest by len(host.pieces); m is a multiple of the periods of both.
    """
    guests = repeated(guest.pieces, m)
    numbers = [None if piece is None else value_at(piece.row, 0) for piece in repeated(rests.pieces, m)]
    pieces = [_placed_piece(host, piece, number) for piece, number in zip(guests, numbers)]
    start = _start_of_placed(host, guest.pieces, numbers, later_start(guest, rests))
    size = len(host.below)
    values = [None if k is None else host.below[k] if 0 <= k < size else host.given(k)
              for k in values_to(guest, start)]
    return least_form(values, pieces)


def _placed_piece(host, piece, number):
    """What the host follows at the values of the piece, which have the rest number by the period of the host."""
    if piece is None:
        return None
    if piece.degree <= 0:
        value = host.given(value_at(piece.row, 0))
        return None if value is None else Piece((value,))
    outer = _outer_piece(host, piece, number)
    return None if outer is None else _inserted(outer, piece)


def _outer_piece(host, piece, number):
    """What the host follows where the values of the piece, which is not constant, are going to."""
    return host.low if piece.end < 0 else host.pieces[number]


def _inserted(outer, piece):
    """The piece whose value at n is that of outer at the value of the piece at n."""
    check_degree(outer.degree * piece.degree)
    if len(outer.row) < 2 or piece.row == (0, 1) and piece.under == 1:
        return outer
    inserted = []
    factor = 1
    for number in outer.row[::-1]:
        inserted = row_sum(row_product(piece.row, inserted), (number * factor,))
        factor = factor * piece.under
    return Piece(inserted, outer.under * factor // piece.under)


def _start_of_placed(host, guests, numbers, low):
    """A start from low on from which the host at the values of the guests follows its pieces.

    The numbers are those of placed, for a period that is a multiple of the number of guests.
    """
    m = len(guests)
    start = low
    strays = {}
    for r, piece in enumerate(guests):
        if piece is not None and piece.degree > 0:
            last = _last_on_the_way(host, piece, m, r, start)
            if last >= MOST_START:
                # Some n are left at which the host is not asked where it is simple; they may do no harm, one by one.
                for k in range(r, len(numbers), m):
                    _check_late(host, piece, numbers, k, start, strays)
                last = MOST_START - 1
            start = behind(last, start)
    return start


def _check_late(host, piece, numbers, r, low, strays):
    """TooLate if the host at the value of the piece at some late n of the rest r by len(numbers) goes astray.

    strays keeps what _strays has told before.
    """
    m = len(numbers)
    if _last_on_the_way(host, piece, m, r, low) >= MOST_START:
        key = (numbers[r], piece.end)
        if key not in strays:
            strays[key] = _strays(host, _outer_piece(host, piece, numbers[r]), numbers[r])
        _check_line(host, piece.stretched(m, r), numbers[r], first_on(m, r, MOST_START), strays[key])


def _last_on_the_way(host, piece, m, r, low):
    """The greatest n from low on, with the rest r by m, where the value of the piece has not come to stay; or -1.

    It comes to stay below 0, or where the host follows its pieces.
    """
    if piece.end < 0:
        return last_other(piece.row, m, r, low, (-1,))
    return last_other((piece - len(host.below)).row, m, r, low, (0, 1))


def _strays(host, outer, number):
    """The k with the rest number at which host.below is not what outer gives."""
    size = len(host.below)
    return {k: True for k in range(number, size, len(host.pieces)) if not gives(outer, k, host.below[k])}


def _check_line(host, piece, number, first, strays):
    """TooLate if at some t from first on the host at the value of the piece is not what it is for great t."""
    outer = _outer_piece(host, piece, number)
    ones = signs_of_row(piece.row, first)
    others = signs_of_row((piece - len(host.below)).row, first)
    for begin, last, sign, gap in merged(ones, others):
        if sign < 0:
            is_late = _differ(host.low, outer, piece, begin, last)
        elif gap < 0:
            is_late = len(strays) > 0 and any([k in strays for k in values_of_piece(piece, begin, 1, last + 1 - begin)])
        else:
            is_late = _differ(host.pieces[number], outer, piece, begin, last)
        if is_late:
            raise TooLate(MOST_START)


def _differ(one, other, piece, begin, last):
    """True if one and other are not the same at the value of the piece at some t from begin to last."""
    if one is None or other is None:
        return one is not None or other is not None
    gap = one - other
    if gap.degree < 0:
        return False
    # This ends soon, also for a great last, because a piece has few zeros.
    t = begin
    while last is None or t <= last:
        if value_at(gap.row, value_on(piece, t)) != 0:
            return True
        t += 1
    return False
