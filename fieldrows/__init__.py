"""Fieldrows: records and choices with open rows of fields."""
