"""Formulas and tests told by their texts."""

from everyfloor.making import made
from everyfloor.reading import Reading


def read_formula(text):
    """The formula with the text."""
    return made(Reading(text, "formula", False).steps, {})


def read_test(text):
    """The test with the text."""
    return made(Reading(text, "test", False).steps, {})
