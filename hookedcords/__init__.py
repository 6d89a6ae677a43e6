"""Hooked cords: rows of hooks, exchanges, cuts and joins, and the figures that come of them."""
