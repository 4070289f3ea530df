"""Rings of labels, their permutations and their alignments."""
