"""Integers, and rows of integers: (r0, r1, r2, ..) stands for r0 + r1 * n + r2 * n ** 2 + .."""

from math import comb, gcd


def is_int(value):
    """True if the value is an integer; True and False are not."""
    return isinstance(value, int) and not isinstance(value, bool)


def is_int_from(value, low):
    """True if the value is an integer that is not less than low."""
    return is_int(value) and value >= low


def sign_of(number):
    """1, 0 or -1."""
    if number == 0:
        return 0
    return 1 if number > 0 else -1


def value_at(row, n):
    """The value of the row at n."""
    total = 0
    for number in row[::-1]:
        total = total * n + number
    return total


def divisible_everywhere(row, under):
    """True if the value of the row at every integer is a multiple of under."""
    # As many integers in a row as the row has members are enough: degree + 1.
    for n in range(len(row)):
        left = 0
        for number in row[::-1]:
            left = (left * n + number) % under
        if left != 0:
            return False
    return True


def trimmed(row):
    """The row without zeros at its end."""
    size = len(row)
    while size > 0 and row[size - 1] == 0:
        size = size - 1
    return list(row[:size])


def common_divisor(first, row):
    """The greatest integer that divides the integer first, which is not 0, and every member of the row."""
    shared = first
    for number in row:
        if shared == 1:
            return 1
        shared = gcd(shared, number)
    return shared


def row_times(row, factor):
    """The row of factor times the values."""
    return [number * factor for number in row]


def row_sum(one, other):
    """The row of the sums of the values."""
    if len(one) < len(other):
        return row_sum(other, one)
    return [a + b for a, b in zip(one, other)] + list(one[len(other):])


def row_gap(one, other):
    """The row of the values of one less those of the other."""
    size = min(len(one), len(other))
    return [a - b for a, b in zip(one, other)] + list(one[size:]) + [-b for b in other[size:]]


def row_product(one, other):
    """The row of the products of the values."""
    if len(one) == 0 or len(other) == 0:
        return []
    product = []
    for number in one[::-1]:
        product = row_sum([0, *product], row_times(other, number))
    return product


def row_divided(row, divisor):
    """(quotient, rest, factor), with a factor from 1 on: factor times the row is quotient * divisor + rest.

    The divisor does not end with 0, and the rest is shorter than the divisor.
    """
    top = divisor[-1]
    quotient = []
    rest = list(row)
    factor = 1
    while len(rest) >= len(divisor):
        # Only what keeps the next member of the quotient whole is multiplied, so that the numbers stay small.
        widening = abs(top) // gcd(top, rest[-1])
        lead = rest[-1] * widening // top
        taken = [0] * (len(rest) - len(divisor)) + row_times(divisor, lead)
        rest = [number * widening - less for number, less in zip(rest[:-1], taken)]
        quotient = [lead] + row_times(quotient, widening)
        factor = factor * widening
    return quotient, rest, factor


def row_stretched(row, m, r):
    """The row that has at t the value of the row at m * t + r."""
    if len(row) == 2:
        return [row[0] + row[1] * r, row[1] * m]
    stretched = []
    for number in row[::-1]:
        stretched = row_sum(row_product((r, m), stretched), (number,))
    return stretched


def row_of_steps(row):
    """The row whose value at n is the value of the row at n + 1 less that at n."""
    size = len(row)
    return [sum([comb(k, j) * row[k] for k in range(j + 1, size)]) for j in range(size - 1)]


def row_through(place, values, step=1):
    """(row, under) of the least degree, with the values over under at place, place + step, and so on."""
    leads = []
    line = list(values)
    while any(line):
        leads.append(line[0])
        line = [after - before for before, after in zip(line, line[1:])]
    # Newton's form: lead 0 + (n - place) / step * (lead 1 + (n - place - step) / (2 * step) * (lead 2 + ..)), from
    # the inside out.
    row = []
    under = 1
    for k in reversed(range(len(leads))):
        row = row_sum(row_product((-place - k * step, 1), row), (leads[k] * under,))
        under = under * max(k * step, 1)
    return row, under
