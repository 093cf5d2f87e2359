"""What sums, products, quotients and the like of formulas follow, as (below, pieces) in the least form.

Here a formula is looked at by its attributes below, start, pieces and period alone.
"""

from math import gcd

from everyfloor.division import common_divisors, quotient_piece, quotients, rest_piece, start_of_quotients
from everyfloor.rows import (
    check_degree, differences, later_start, least_form, pairs_of_pieces, pairs_of_values, pieces_of_both,
    values_of_both, values_to)
from everyfloor.steady import start_of_signs


def sum_of(f, g):
    ones, others = pieces_of_both(f, g)
    values, added = values_of_both(f, g, later_start(f, g))
    return least_form(_sums(values, added), _sums(ones, others))


def difference_of(f, g):
    ones, others = pieces_of_both(f, g)
    values, taken = values_of_both(f, g, later_start(f, g))
    return least_form(differences(values, taken), differences(ones, others))


def product_of(f, g):
    ones, others = pieces_of_both(f, g)
    values, factors = values_of_both(f, g, later_start(f, g))
    return least_form(_products(values, factors), _products(ones, others))


def negative_of(f):
    return least_form(_negatives(f.below), _negatives(f.pieces))


def power_of(f, k):
    for piece in f.pieces:
        if piece is not None:
            check_degree(piece.degree * k)
    return least_form(_powers(f.below, k), _powers(f.pieces, k))


def absolute_of(f):
    """What abs follows."""
    pieces = [None if piece is None else _raised(piece) for piece in f.pieces]
    start = start_of_signs(f.start, pieces, (0, 1))
    return least_form([None if a is None else abs(a) for a in values_to(f, start)], pieces)


def quotient_of(f, g):
    cuts, start = _cuts(f, g)
    values = [None if pair is None else pair[0] // pair[1] for pair in _divisions(f, g, start)]
    return least_form(values, [quotient_piece(cut) for cut in cuts])


def rest_of(f, g):
    cuts, start = _cuts(f, g)
    values = [None if pair is None else pair[0] % pair[1] for pair in _divisions(f, g, start)]
    return least_form(values, [rest_piece(cut) for cut in cuts])


def common_divisor_of(f, g):
    divisors = common_divisors(pairs_of_pieces(f, g))
    pieces = [None if piece is None else _raised(piece) for piece in divisors]
    # The quotients of the steps are whole at each n of their rests, also where a step is not yet what % gives:
    # so the last piece is the greatest common divisor up to its sign as soon as f and g follow theirs.
    start = start_of_signs(later_start(f, g), pieces, (0, 1))
    values = [None if pair is None else gcd(pair[0], pair[1]) for pair in pairs_of_values(f, g, start)]
    return least_form(values, pieces)


def chosen_of(f, g, sign):
    """What the greater one (sign 1) or the smaller one (sign -1) of f and g follows."""
    pairs = pairs_of_pieces(f, g)
    gaps = [None if pair is None else _raised(pair[0] - pair[1]) for pair in pairs]
    start = start_of_signs(later_start(f, g), gaps, (0, 1))
    pieces = [None if pair is None else _chosen_piece(pair, sign) for pair in pairs]
    values = [None if pair is None else _chosen(pair, sign) for pair in pairs_of_values(f, g, start)]
    return least_form(values, pieces)


def _sums(ones, others):
    return [None if a is None or b is None else a + b for a, b in zip(ones, others)]


def _products(ones, others):
    return [None if a is None or b is None else a * b for a, b in zip(ones, others)]


def _negatives(row):
    return [None if a is None else -a for a in row]


def _powers(row, k):
    return [None if a is None else _power(a, k) for a in row]


def _power(a, k):
    """The product of k times a, a piece or an integer; a kind of 1 if k is 0."""
    product = a * 0 + 1
    for _ in range(k):
        product = product * a
    return product


def _raised(piece):
    """The piece or its negative, whichever is not below 0 for great n."""
    return -piece if piece.end < 0 else piece


def _chosen_piece(pair, sign):
    return pair[0] if (pair[0] - pair[1]).end * sign >= 0 else pair[1]


def _chosen(pair, sign):
    return pair[0] if (pair[0] - pair[1]) * sign >= 0 else pair[1]


def _cuts(f, g):
    """The cuts of the pieces of f by those of g, and a start from which the values follow them."""
    pairs = pairs_of_pieces(f, g)
    cuts = quotients([None if pair is None or pair[1].degree < 0 else pair for pair in pairs])
    return cuts, start_of_quotients(later_start(f, g), cuts)


def _divisions(f, g, size):
    """The pairs of what f and g give at each n less than size; None where nothing is divided."""
    return [None if pair is None or pair[1] == 0 else pair for pair in pairs_of_values(f, g, size)]
