"""Besideseats: groups seated in a hall."""
