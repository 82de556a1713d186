"""Stamped asks."""
