"""Zipspring: rows without end, told by equations."""
