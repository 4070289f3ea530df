"""Crossfloor: moves in which the four quadrants of a floor cross over."""
