"""Paidspan: books of paid spans."""
