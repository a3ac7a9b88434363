"""Onebend: rows of numbers that bend one way."""
