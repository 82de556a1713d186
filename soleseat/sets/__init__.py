"""Families of sets."""
