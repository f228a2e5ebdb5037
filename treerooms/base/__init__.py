"""Rooms, their lots, and how rooms are led into rooms."""
