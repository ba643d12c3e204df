"""Classes: the placings that can come of one another."""
