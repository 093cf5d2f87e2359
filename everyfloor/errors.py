"""The errors of the package. Each one keeps its fields, which may be any values, as attributes."""

# No error makes a message of its fields: a number among them may be too long to be written out.


class EveryfloorError(ValueError):
    """What all errors of the package have in common."""


class BadRow(EveryfloorError):
    """A member of a row of numbers is not an integer."""

    def __init__(self, index):
        self.index = index


class BadUnder(EveryfloorError):
    """The divisor of a piece is not an integer from 1 on."""

    def __init__(self, under):
        self.under = under


class BadPlace(EveryfloorError):
    """A place is not an integer, or not one that may be asked for."""

    def __init__(self, n):
        self.n = n


class NotWhole(EveryfloorError):
    """The value of a piece is not an integer at n."""

    def __init__(self, n):
        self.n = n


class BadNumber(EveryfloorError):
    """A number is not an integer, or not one in the range that is asked for."""

    def __init__(self, number):
        self.number = number


class NoDivisor(EveryfloorError):
    """A piece is divided by the piece that is 0 everywhere."""


class BadTruth(EveryfloorError):
    """A member of a list of truths is neither True nor False."""

    def __init__(self, index):
        self.index = index


class NoMember(EveryfloorError):
    """A set has no member with the number k."""

    def __init__(self, k):
        self.k = k


class TooHigh(EveryfloorError):
    """A piece has a degree that is greater than most."""

    def __init__(self, most):
        self.most = most


class TooFine(EveryfloorError):
    """A period is greater than most."""

    def __init__(self, most):
        self.most = most


class TooLate(EveryfloorError):
    """A start is greater than most."""

    def __init__(self, most):
        self.most = most


class BadWhole(EveryfloorError):
    """A value can not stand in the place of a formula."""

    def __init__(self, value):
        self.value = value


class BadPower(EveryfloorError):
    """An exponent is not an integer from 0 to 6."""

    def __init__(self, k):
        self.k = k


class Undefined(EveryfloorError):
    """A formula or a test is undefined at n."""

    def __init__(self, n):
        self.n = n


class NoPieces(EveryfloorError):
    """A formula is told by data without pieces."""


class BadPiece(EveryfloorError):
    """A piece is no whole number at some n at which it is used."""

    def __init__(self, index):
        self.index = index


class BadBegin(EveryfloorError):
    """The beginning of a loop is not one to six formulas."""


class BadTest(EveryfloorError):
    """The test of a loop returned something else than a test."""


class BadStep(EveryfloorError):
    """The step of a loop returned something else than as many formulas."""


class BadMember(EveryfloorError):
    """A member of a list of values is neither an integer nor None."""

    def __init__(self, index):
        self.index = index


class TooFew(EveryfloorError):
    """There are fewer values than are needed to tell a formula."""

    def __init__(self, have, want):
        self.have = have
        self.want = want


class NoFormula(EveryfloorError):
    """No formula of the kind that is asked for has the values up to n."""

    def __init__(self, n):
        self.n = n


class NoValue(EveryfloorError):
    """A formula is undefined at every n."""


class NoBound(EveryfloorError):
    """A formula passes the bound, for the first time at n."""

    def __init__(self, n):
        self.n = n


class TooMany(EveryfloorError):
    """There are more things of a kind than may be told."""

    def __init__(self, what, many, most):
        self.what = what
        self.many = many
        self.most = most


class BadText(EveryfloorError):
    """A text is wrong at the character with the number at."""

    def __init__(self, at):
        self.at = at


class BadName(EveryfloorError):
    """A name is not a name, or is not free."""

    def __init__(self, name):
        self.name = name


class UnknownName(EveryfloorError):
    """A name is not one of the book."""

    def __init__(self, name):
        self.name = name


class Circle(EveryfloorError):
    """A formula would need itself."""

    def __init__(self, name):
        self.name = name


class Refused(EveryfloorError):
    """The formula or the test of a name can not be made; why is the error."""

    def __init__(self, name, why):
        self.name = name
        self.why = why


class Broken(EveryfloorError):
    """A guard would not hold, for the first time at n."""

    def __init__(self, name, n):
        self.name = name
        self.n = n


class InUse(EveryfloorError):
    """A name is needed by the entry or the guard that by names."""

    def __init__(self, name, by):
        self.name = name
        self.by = by


class NoSteps(EveryfloorError):
    """There is no step to take back."""


class BadLine(EveryfloorError):
    """A line of a page can not stand; why is the error."""

    def __init__(self, line, why):
        self.line = line
        self.why = why
