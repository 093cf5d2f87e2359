"""Tests of formulas, each known for every n, and choices by them."""

from everyfloor.errors import BadPlace, Undefined
from everyfloor.formulas import Formula, as_formula
from everyfloor.integers import is_int_from, sign_of
from everyfloor.rows import common_period, later_start, least_form, pairs_of_pieces, pairs_of_values, value_of
from everyfloor.steady import behind, last_other
from everyfloor.wheres import Where


class Test:
    """What holds at some n, fails at some n, and is undefined at all other n."""

    def __init__(self, holds, fails, text):
        self.holds = holds
        self.fails = fails
        self.text = text

    def __call__(self, n):
        if not is_int_from(n, 0):
            raise BadPlace(n)
        if n in self.holds:
            return True
        if n in self.fails:
            return False
        raise Undefined(n)

    def __eq__(self, other):
        return isinstance(other, Test) and self.holds == other.holds and self.fails == other.fails

    def __invert__(self):
        return Test(self.fails, self.holds, f"not {self.text}")

    def __and__(self, other):
        if not isinstance(other, Test):
            return NotImplemented
        common_period(periods_of(self) + periods_of(other))
        holds = self.holds & other.holds
        fails = self.fails | self.holds & other.fails
        return Test(holds, fails, f"({self.text} and {other.text})")

    def __or__(self, other):
        if not isinstance(other, Test):
            return NotImplemented
        common_period(periods_of(self) + periods_of(other))
        holds = self.holds | self.fails & other.holds
        fails = self.fails & other.fails
        return Test(holds, fails, f"({self.text} or {other.text})")


def periods_of(t):
    """The two periods with which a test counts."""
    return [t.holds.period, t.fails.period]


def less(f, g):
    """The test that the value of f is smaller than that of g."""
    return _compared(as_formula(f), as_formula(g), "<", (-1,))


def atmost(f, g):
    """The test that the value of f is not greater than that of g."""
    return _compared(as_formula(f), as_formula(g), "<=", (-1, 0))


def same(f, g):
    """The test that the values of f and g are equal."""
    return _compared(as_formula(f), as_formula(g), "==", (0,))


def when(t, f, g):
    """The formula that is f where t holds and g where t fails."""
    first = as_formula(f)
    second = as_formula(g)
    m = common_period(periods_of(t) + [first.period, second.period])
    pieces = []
    for r in range(m):
        chosen = _chosen(t.holds.rests[r % t.holds.period], t.fails.rests[r % t.fails.period], first, second)
        pieces.append(None if chosen is None else chosen.pieces[r % chosen.period])
    values = []
    for n in range(max(len(t.holds.below), len(t.fails.below), int(later_start(first, second)))):
        chosen = _chosen(n in t.holds, n in t.fails, first, second)
        values.append(None if chosen is None else value_of(chosen, n))
    return Formula(least_form(values, pieces), f"when({t.text}, {first.text}, {second.text})")


def _chosen(is_held, is_failed, f, g):
    """f where a test holds, g where it fails, None where it does neither."""
    if is_held:
        return f
    return g if is_failed else None


def _compared(f, g, sign_text, signs):
    """The test that the sign of f - g is one of signs."""
    pairs = pairs_of_pieces(f, g)
    gaps = [None if pair is None else pair[0] - pair[1] for pair in pairs]
    start = later_start(f, g)
    for r, gap in enumerate(gaps):
        if gap is not None:
            start = behind(last_other(gap.row, len(gaps), r, start, _alike_signs(gap.end, signs)), start)
    truths = [None if gap is None else gap.end in signs for gap in gaps]
    values = [None if pair is None else sign_of(pair[0] - pair[1]) in signs for pair in pairs_of_values(f, g, start)]
    holds = Where([truth is True for truth in values], [truth is True for truth in truths])
    fails = Where([truth is False for truth in values], [truth is False for truth in truths])
    return Test(holds, fails, f"({f.text} {sign_text} {g.text})")


def _alike_signs(end, signs):
    """The signs that make the same of a test as the sign end does."""
    return signs if end in signs else tuple([sign for sign in (-1, 0, 1) if sign not in signs])
