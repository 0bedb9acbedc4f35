"""Least repairs of texts that a grammar does not read."""
