"""Handsapart: one machine done by several hands."""
