"""Errors, marks, rows, fractions and spans: what every other part uses."""
