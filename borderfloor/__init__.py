"""Borderfloor: one piece, its border, and floors without end."""
