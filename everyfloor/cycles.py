"""Rows that come round."""


def least_period(row):
    """The least divisor of the length by which the row comes round."""
    period = len(row)
    for prime in primes_of(period):
        while period % prime == 0 and _comes_round(row, period // prime):
            period = period // prime
    return period


def _comes_round(row, step):
    return row[step:] == row[:len(row) - step]


def primes_of(number):
    """The primes that divide the number, which is from 1 on."""
    primes = []
    left = number
    prime = 2
    while prime * prime <= left:
        if left % prime == 0:
            primes.append(prime)
        while left % prime == 0:
            left = left // prime
        prime = prime + 1
    if left > 1:
        primes.append(left)
    return primes
