"""Sketches: what is known of a world that is half known."""
