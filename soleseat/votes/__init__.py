"""Votes by sets."""
