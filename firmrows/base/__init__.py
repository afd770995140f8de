"""Rows, patterns and databases."""
