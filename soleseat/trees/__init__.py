"""A key on a tree."""
