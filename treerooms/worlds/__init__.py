"""Finite worlds of a web, and what they tell of its stocks of words."""
