"""Logs, and runs of them."""
