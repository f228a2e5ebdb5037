"""Rooms, webs, roads and worlds as texts."""
