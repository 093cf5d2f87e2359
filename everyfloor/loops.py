"""Small loops, run for all n at once."""

from everyfloor.compare import Test, chosen_data
from everyfloor.errors import BadBegin, BadNumber, BadStep, BadTest
from everyfloor.formulas import MOST_WHOLE, Formula, as_formula, whole
from everyfloor.integers import is_int, is_int_from
from everyfloor.rows import Told
from everyfloor.spelling import given_text
from everyfloor.wheres import Where

MOST_VARIABLES = 6
MOST_ROUNDS = 100


class Loop:
    """What a loop with one to six variables does at each n: it ends, has many rounds, or is broken."""

    def __init__(self, begin, test, step, most=100):
        if not _are_formulas(begin) or not 1 <= len(begin) <= MOST_VARIABLES:
            raise BadBegin()
        if not is_int_from(most, 0) or most > MOST_ROUNDS:
            raise BadNumber(most)
        rows, tests = _run([_by_data_of(as_formula(value)) for value in begin], test, step, most)
        self.most = most
        self.rounds = _at_the_end(tests, [whole(k) for k in range(len(tests))])
        # The functions may have changed begin, but not the rows.
        self.last = tuple([_at_the_end(tests, [row[k] for row in rows]) for k in range(len(rows[0]))])
        self.ends = ~self.rounds.undefined
        self.many = tests[-1].holds
        self.broken = ~(self.ends | self.many)


def _are_formulas(values):
    """True if the value is a list or a tuple of formulas and integers that stand for some."""
    return isinstance(values, (list, tuple)) and all([_is_formula(value) for value in values])


def _is_formula(value):
    return isinstance(value, Formula) or is_int(value) and -MOST_WHOLE <= value <= MOST_WHOLE


def _run(begin, test, step, most):
    """(rows, tests): the values of the variables behind each number of rounds, and the tests of these."""
    rows = [begin]
    tests = [_tested(begin, test)]
    while len(tests) <= most and tests[-1].holds:
        t = tests[-1]
        values = _stepped([_going_on(t, value) for value in rows[-1]], step)
        rows.append([_by_data_of(_where_held(t, value)) for value in values])
        tests.append(_tested(rows[-1], test))
    return rows, tests


def _tested(values, test):
    """The test of the values that is undefined where one of them is."""
    found = test(*values)
    if not isinstance(found, Test):
        raise BadTest()
    t = _defined(values[0])
    for value in values[1:]:
        t = t & _defined(value)
    return t & found


def _defined(f):
    """What same(f, f) is."""
    return Test(~f.undefined, Where((), (False,)), "")


def _stepped(values, step):
    """The formulas that the step returns."""
    found = step(*values)
    if not _are_formulas(found) or len(found) != len(values):
        raise BadStep()
    return [as_formula(value) for value in found]


def _going_on(t, value):
    """The formula that is the value where t holds, and undefined at all other n; the value has the text of its data."""
    found = _where_held(t, value)
    return value if found.below == value.below and found.pieces == value.pieces else _by_data_of(found)


def _where_held(t, f):
    """What f follows where t holds, undefined at all other n."""
    return _choice(t, f, _undefined())


def _at_the_end(tests, formulas):
    """The formula that is the k-th one where the tests with lower numbers hold and the k-th one fails."""
    found = _undefined()
    for k in reversed(range(len(tests))):
        found = _choice(tests[k], found, formulas[k])
    return _by_data_of(found)


def _choice(t, f, g):
    """What when(t, f, g) follows."""
    below, pieces = chosen_data(t, f, g)
    return Told(below, pieces)


def _by_data_of(f):
    """The formula with the text of its data."""
    return Formula((f.below, f.pieces), given_text(f.below, f.pieces))


def _undefined():
    return Told((), (None,))
