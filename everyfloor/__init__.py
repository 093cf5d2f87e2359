"""Everyfloor: whole-number formulas of one unknown, for every n."""
