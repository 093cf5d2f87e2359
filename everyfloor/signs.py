"""Where pieces are above 0, 0 and below 0, at integers."""

from everyfloor.errors import BadNumber, BadPlace
from everyfloor.integers import is_int, row_of_steps, sign_of, value_at

# From this width on, guesses find a crossing sooner than halving does.
WIDE = 64


def signs_of(p, low=0):
    """The list of the (first, last, sign) of p at the integers from low on; the last one has None as its last."""
    if not is_int(low):
        raise BadPlace(low)
    return signs_of_row(p.row, low)


def signs_of_row(row, low):
    """The list of the (first, last, sign) of the row of integers at the integers from low on, as signs_of tells it."""
    rows = [row]
    while len(rows[-1]) > 1:
        rows.append(row_of_steps(rows[-1]))
    # The signs of the steps tell where a row goes up and where down; the last row does not move at all.
    found = [(low, None, sign_of(value_at(rows[-1], low)))]
    for higher in rows[-2::-1]:
        found = _signs_by_moves(higher, found)
    return found


def last_above(p):
    """The greatest n from 0 on at which p is greater than 0; -1 if there is none, None if there is no last one."""
    for _, last, sign in signs_of(p)[::-1]:
        if sign == 1:
            return last
    return -1


def all_with(p, value):
    """The ascending list of all n from 0 on at which p is the value; None if it is the value everywhere."""
    if not is_int(value):
        raise BadNumber(value)
    gap = p - value
    if len(gap.row) == 0:
        return None
    places = []
    for first, last, sign in signs_of(gap):
        if sign == 0:
            places.extend(list(range(first, last + 1)))
    return places


def _signs_by_moves(row, moves):
    """The signs of the row; each (first, last, move) of moves tells the sign of all steps from n to n + 1."""
    found = []
    for first, last, move in moves:
        for start, stop, sign in _signs_of_stretch(row, first, last, move):
            begin = found.pop()[0] if len(found) > 0 and found[-1][2] == sign else start
            found.append((begin, stop, sign))
    return found


def _signs_of_stretch(row, first, last, move):
    """The signs of the row from first to last, where it goes up (move 1) or down (-1) at each step, or stays (0)."""
    here = sign_of(value_at(row, first))
    if move == 0 or here == move:
        return [(first, last, here)]
    if last is not None and move * value_at(row, last) < 0:
        return [(first, last, -move)]
    at = first if here == 0 else _crossing(row, move, first, last)
    behind = at + 1 if value_at(row, at) == 0 else at
    found = []
    if first < at:
        found.append((first, at - 1, -move))
    if at < behind:
        found.append((at, at, 0))
    if last is None or behind <= last:
        found.append((behind, last, move))
    return found


def _is_behind(row, move, n):
    """True if the row, going by move, is at 0 or has passed it at n."""
    return move * value_at(row, n) >= 0


def _crossing(row, move, first, last):
    """The least n behind first at which the row has come to 0; it has not at first, and it has at last (or later)."""
    if len(row) == 2:
        return -(row[0] // row[1])
    low, high = _bracket(row, move, first, last)
    parts = 4
    while high - low > WIDE:
        step = (high - low) // parts + 1
        low, high = _narrowed(row, move, low, high, step)
        # A guess that was right to one part makes one that is right to a part of its square likely.
        parts = parts * parts if high - low <= 2 * step else 4
    while high - low > 1:
        low, high = _cut(row, move, low, high, (low + high) // 2)
    return high


def _bracket(row, move, first, last):
    """(low, high), both at about the same distance from first: at low the row has not come to 0, at high it has."""
    small, great = -1, 0
    while not _is_out(row, move, first + (1 << great), last):
        small, great = great, 2 * great + 1
    while great - small > 1:
        middle = (small + great) // 2
        if _is_out(row, move, first + (1 << middle), last):
            great = middle
        else:
            small = middle
    low = first if small < 0 else first + (1 << small)
    high = first + (1 << great)
    if last is not None and last < high:
        return low, last
    return low, high


def _is_out(row, move, n, last):
    """True if the row has come to 0 at n, or n is not ahead of last, where the row has."""
    return last is not None and n >= last or _is_behind(row, move, n)


def _narrowed(row, move, low, high, step):
    """low and high drawn together: to two steps if the row is nearly straight there, else at least to a half."""
    ahead = -move * value_at(row, low)
    behind = move * value_at(row, high)
    guess = low + ahead * (high - low) // (ahead + behind)
    middle = (low + high) // 2
    low, high = _cut(row, move, low, high, guess - step)
    low, high = _cut(row, move, low, high, guess + step)
    return _cut(row, move, low, high, middle)


def _cut(row, move, low, high, n):
    """low and high, with n in the place of one of them if n is between them."""
    if not low < n < high:
        return low, high
    return (low, n) if _is_behind(row, move, n) else (n, high)
