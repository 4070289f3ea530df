"""The tests of crossfloor."""
