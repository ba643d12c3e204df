"""The desk: a diary that is kept and asked by rows of text."""
