"""Soleseat: one at a time by letters alone."""
