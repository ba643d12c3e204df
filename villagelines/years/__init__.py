"""Years: what is noted of families and lines."""
