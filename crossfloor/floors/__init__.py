"""Floors, and their written form."""
