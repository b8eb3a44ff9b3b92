"""Turning hands: walkers, rides and tours along a table of turns."""
