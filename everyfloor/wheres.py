"""Sets of n that come round: from a start on, n is in the set exactly if n + period is."""

from math import gcd, lcm

from everyfloor.cycles import least_period
from everyfloor.errors import BadNumber, BadPlace, BadTruth, NoMember, TooFine, TooLate
from everyfloor.integers import is_int, is_int_from

MOST_PERIOD = 720
MOST_START = 10000


class Where:
    """A set of integers from 0 on, with its least period and its least start."""

    def __init__(self, below, rests):
        _check_truths(below)
        _check_truths(rests)
        if len(rests) == 0:
            raise BadTruth(0)
        period = least_period(rests)
        start = _least_start(below, rests)
        if period > MOST_PERIOD:
            raise TooFine(MOST_PERIOD)
        if start > MOST_START:
            raise TooLate(MOST_START)
        self.period = period
        self.start = start
        self.rests = tuple(rests[:period])
        self.below = tuple(below[:start])
        # The members below the start, and those from it on for one period: by them each member can be told.
        self._early = tuple([n for n, truth in enumerate(self.below) if truth])
        self._late = tuple([n for n in range(start, start + period) if rests[n % period]])

    @classmethod
    def of(cls, members):
        """The set of the integers in a list."""
        size = 0
        for member in members:
            if not is_int_from(member, 0):
                raise BadPlace(member)
            if member >= size:
                size = member + 1
        if size > MOST_START:
            raise TooLate(MOST_START)
        below = [False] * size
        for member in members:
            below[member] = True
        return cls(below, (False,))

    @classmethod
    def since(cls, low):
        """The set of all n from low on."""
        if not is_int_from(low, 0):
            raise BadPlace(low)
        if low > MOST_START:
            raise TooLate(MOST_START)
        return cls([False] * low, (True,))

    @classmethod
    def rest(cls, m, r):
        """The set of all n whose rest by m is r."""
        if not is_int_from(m, 1):
            raise BadNumber(m)
        if not is_int_from(r, 0) or r >= m:
            raise BadNumber(r)
        if m > MOST_PERIOD:
            raise TooFine(MOST_PERIOD)
        return cls((), [k == r for k in range(m)])

    def __eq__(self, other):
        return isinstance(other, Where) and self.below == other.below and self.rests == other.rests

    def __contains__(self, x):
        if not is_int_from(x, 0):
            return False
        return self.below[x] if x < self.start else self.rests[x % self.period]

    def __bool__(self):
        return True in self.below or True in self.rests

    def __or__(self, other):
        below, others, rests, later = _paired(self, other)
        return Where([a or b for a, b in zip(below, others)], [a or b for a, b in zip(rests, later)])

    def __and__(self, other):
        below, others, rests, later = _paired(self, other)
        return Where([a and b for a, b in zip(below, others)], [a and b for a, b in zip(rests, later)])

    def __sub__(self, other):
        below, others, rests, later = _paired(self, other)
        return Where([a and not b for a, b in zip(below, others)], [a and not b for a, b in zip(rests, later)])

    def __xor__(self, other):
        below, others, rests, later = _paired(self, other)
        return Where([a != b for a, b in zip(below, others)], [a != b for a, b in zip(rests, later)])

    def __invert__(self):
        return Where([not a for a in self.below], [not a for a in self.rests])

    def __le__(self, other):
        if not isinstance(other, Where):
            return NotImplemented
        return _is_within(self, other)

    def __lt__(self, other):
        if not isinstance(other, Where):
            return NotImplemented
        return _is_within(self, other) and not _is_within(other, self)

    def __ge__(self, other):
        if not isinstance(other, Where):
            return NotImplemented
        return _is_within(other, self)

    def __gt__(self, other):
        if not isinstance(other, Where):
            return NotImplemented
        return _is_within(other, self) and not _is_within(self, other)

    @property
    def least(self):
        """The least member, or None."""
        return self._numbered(0)

    @property
    def size(self):
        """The number of members; None if there are infinitely many."""
        return None if len(self._late) > 0 else len(self._early)

    def first_from(self, n):
        """The least member that is not less than n, or None."""
        if not is_int(n):
            raise BadPlace(n)
        return self._numbered(self._many_below(n))

    def last_to(self, n):
        """The greatest member that is not greater than n, or None."""
        if not is_int(n):
            raise BadPlace(n)
        many = self._many_below(n + 1)
        return self._numbered(many - 1) if many > 0 else None

    def how_many(self, low, high):
        """The number of members from low on that are less than high."""
        if not is_int(low):
            raise BadPlace(low)
        if not is_int(high):
            raise BadPlace(high)
        return self._many_below(high) - self._many_below(low) if low < high else 0

    def member(self, k):
        """The member with the number k, counted from 0."""
        if not is_int_from(k, 0):
            raise BadNumber(k)
        found = self._numbered(k)
        if found is None:
            raise NoMember(k)
        return found

    def _many_below(self, n):
        """The number of members that are less than n."""
        if n <= self.start:
            return _many_less(self._early, n)
        rounds, left = divmod(n - self.start, self.period)
        return len(self._early) + rounds * len(self._late) + _many_less(self._late, self.start + left)

    def _numbered(self, k):
        """The member with the number k, or None; k is from 0 on."""
        if k < len(self._early):
            return self._early[k]
        if len(self._late) == 0:
            return None
        rounds, at = divmod(k - len(self._early), len(self._late))
        return self._late[at] + rounds * self.period


def _check_truths(truths):
    wrong = [index for index, truth in enumerate(truths) if truth is not True and truth is not False]
    if len(wrong) > 0:
        raise BadTruth(wrong[0])


def _least_start(below, rests):
    size = len(below)
    if size == 0 or below[size - 1] != rests[(size - 1) % len(rests)]:
        return size
    truths = list(below)
    later = (list(rests) * (size // len(rests) + 1))[:size]
    # From the start on, and not from any n below it, the rows are the same to their ends.
    low, high = 0, size
    while low < high:
        middle = (low + high) // 2
        if truths[middle:] == later[middle:]:
            high = middle
        else:
            low = middle + 1
    return low


def _many_less(places, n):
    """How many of the ascending places are less than n."""
    low, high = 0, len(places)
    while low < high:
        middle = (low + high) // 2
        if places[middle] < n:
            low = middle + 1
        else:
            high = middle
    return low


def truths_to(where, size):
    """Whether n is a member, for each n less than size."""
    late = size - where.start
    if late <= 0:
        return where.below[:size]
    first = where.start % where.period
    rests = where.rests[first:] + where.rests[:first]
    return where.below + (rests * (late // where.period + 1))[:late]


def _paired(v, w):
    """Whether n is in v, and whether it is in w: below both starts, and then for each rest by both periods."""
    period = lcm(v.period, w.period)
    if period > MOST_PERIOD:
        raise TooFine(MOST_PERIOD)
    size = max(len(v.below), len(w.below))
    return (truths_to(v, size), truths_to(w, size),
            v.rests * (period // v.period), w.rests * (period // w.period))


def _is_within(v, w):
    """True if each member of v is one of w."""
    size = max(len(v.below), len(w.below))
    if any([a and not b for a, b in zip(truths_to(v, size), truths_to(w, size))]):
        return False
    # Great n have any two rests by the two periods that are the same by the greatest common divisor, so that
    # the least common multiple, which may be long, is not walked through.
    shared = gcd(v.period, w.period)
    for r in range(shared):
        if True in v.rests[r::shared] and False in w.rests[r::shared]:
            return False
    return True
