"""Cabins on a rope that goes around by stations."""
