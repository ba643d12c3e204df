"""Needs of several kinds of people."""
