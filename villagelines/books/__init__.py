"""Books of lines: what a region does in all censuses."""
