"""Tracerline: what the readings of one room tell about every web of rooms and all later readings."""
