"""Moves on floors."""
