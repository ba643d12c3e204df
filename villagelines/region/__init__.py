"""Regions, their censuses, moves and walks, and their texts."""
