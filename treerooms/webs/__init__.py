"""Webs of rooms, roads through them, and plain roads."""
