"""Sides: regions that can be joined at gates."""
