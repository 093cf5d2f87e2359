"""Tests of formulas, each known for every n, and choices by them."""

from everyfloor.errors import BadPlace, Undefined
from everyfloor.formulas import Formula, as_formula
from everyfloor.integers import is_int_from, sign_of
from everyfloor.pieces import gap_row
from everyfloor.rows import (
    common_period, differences, later_start, least_form, pairs_of_pieces, repeated, values_of_both, values_to)
from everyfloor.steady import behind, last_other
from everyfloor.wheres import Where, truths_to


class Test:
    """What holds at some n, fails at some n, and is undefined at all other n."""

    def __init__(self, holds, fails, text):
        self.holds = holds
        self.fails = fails
        self.text = text

    def __call__(self, n):
        if not is_int_from(n, 0):
            raise BadPlace(n)
        if n in self.holds:
            return True
        if n in self.fails:
            return False
        raise Undefined(n)

    def __eq__(self, other):
        return isinstance(other, Test) and self.holds == other.holds and self.fails == other.fails

    def __invert__(self):
        return Test(self.fails, self.holds, f"not {self.text}")

    def __and__(self, other):
        if not isinstance(other, Test):
            return NotImplemented
        holds, fails = _both(self.holds, self.fails, other.holds, other.fails)
        return Test(holds, fails, f"({self.text} and {other.text})")

    def __or__(self, other):
        if not isinstance(other, Test):
            return NotImplemented
        # A test holds where its ~ fails, and t | u is what ~(~t & ~u) is.
        fails, holds = _both(self.fails, self.holds, other.fails, other.holds)
        return Test(holds, fails, f"({self.text} or {other.text})")


def _both(holds, fails, other_holds, other_fails):
    """Where t & u holds and where it fails, for the sets of t and the other ones of u."""
    wheres = [holds, fails, other_holds, other_fails]
    m = common_period([where.period for where in wheres])
    size = max([len(where.below) for where in wheres])
    below = [truths_to(where, size) for where in wheres]
    rests = [where.rests * (m // where.period) for where in wheres]
    return (Where([a and b for a, b in zip(below[0], below[2])], [a and b for a, b in zip(rests[0], rests[2])]),
            Where(_failed_of_both(below), _failed_of_both(rests)))


def _failed_of_both(truths):
    return [b or a and c for a, b, c in zip(truths[0], truths[1], truths[3])]


def periods_of(t):
    """The two periods with which a test counts."""
    return [t.holds.period, t.fails.period]


def less(f, g):
    """The test that the value of f is smaller than that of g."""
    return _compared(as_formula(f), as_formula(g), "<", -1)


def atmost(f, g):
    """The test that the value of f is not greater than that of g."""
    return _compared(as_formula(f), as_formula(g), "<=", 0)


def same(f, g):
    """The test that the values of f and g are equal."""
    return _compared(as_formula(f), as_formula(g), "==", None)


def when(t, f, g):
    """The formula that is f where t holds and g where t fails."""
    first = as_formula(f)
    second = as_formula(g)
    return Formula(chosen_data(t, first, second), f"when({t.text}, {first.text}, {second.text})")


def chosen_data(t, f, g):
    """The least (below, pieces) of the formula that is f where t holds and g where t fails."""
    m = common_period(periods_of(t) + [f.period, g.period])
    holds = repeated(t.holds.rests, m)
    fails = repeated(t.fails.rests, m)
    pieces = _chosen(holds, fails, repeated(f.pieces, m), repeated(g.pieces, m))
    size = max(len(t.holds.below), len(t.fails.below), int(later_start(f, g)))
    holds = truths_to(t.holds, size)
    fails = truths_to(t.fails, size)
    return least_form(_chosen(holds, fails, values_to(f, size), values_to(g, size)), pieces)


def _chosen(holds, fails, ones, others):
    """The one where it holds, the other where it fails, None where it does neither, for each member of the rows."""
    return [one if is_held else other if is_failed else None
            for is_held, is_failed, one, other in zip(holds, fails, ones, others)]


def _compared(f, g, sign_text, most):
    """The test that f - g is 0, if most is None; or else that f - g is not greater than most, which is 0 or -1."""
    rows = [None if pair is None else gap_row(pair[0], pair[1]) for pair in pairs_of_pieces(f, g)]
    start = later_start(f, g)
    for r, row in enumerate(rows):
        if row is not None and len(row) > 1:
            start = behind(last_other(row, len(rows), r, start, _alike_signs(row[-1], most)), start)
    rests = [None if row is None else sign_of(row[-1]) if len(row) > 0 else 0 for row in rows]
    ones, others = values_of_both(f, g, start)
    gaps = differences(ones, others)
    holds = Where(_held(gaps, most), _held(rests, most))
    fails = Where(_failed(gaps, most), _failed(rests, most))
    return Test(holds, fails, f"({f.text} {sign_text} {g.text})")


def _held(gaps, most):
    """For each gap whether the test of _compared holds; a gap may be None."""
    if most is None:
        return [gap == 0 for gap in gaps]
    return [gap is not None and gap <= most for gap in gaps]


def _failed(gaps, most):
    if most is None:
        return [gap is not None and gap != 0 for gap in gaps]
    return [gap is not None and gap > most for gap in gaps]


def _alike_signs(number, most):
    """The signs that make the same of the test of _compared as the number does, which is not 0."""
    if most is None:
        return (-1, 1)
    if number > 0:
        return (0, 1) if most < 0 else (1,)
    return (-1,) if most < 0 else (-1, 0)
