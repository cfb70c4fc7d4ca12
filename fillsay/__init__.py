"""Fillsay: sayings with gaps, filled by sayings."""
