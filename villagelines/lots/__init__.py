"""Divisions of the villages, and the lots of a census."""
