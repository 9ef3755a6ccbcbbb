"""Finite orders and how they can be drawn."""
