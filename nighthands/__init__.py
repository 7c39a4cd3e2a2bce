"""Hands that mark a night apart, each on a copy of its own."""
