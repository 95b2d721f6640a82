"""Whose current it is: see currenthouse.house.answers."""
