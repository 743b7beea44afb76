"""Aliasrows: names that may be one cell."""
