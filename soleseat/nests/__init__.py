"""Halls of halls."""
