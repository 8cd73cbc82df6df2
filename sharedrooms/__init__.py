"""Rooms for arrays: live ranges, plans, sharing a room, the same results."""
