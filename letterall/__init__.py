"""Letterall: all runs of hands that send letters."""
