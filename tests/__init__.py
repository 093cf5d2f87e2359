"""The tests of everyfloor."""
