"""Desks: programs with names, and statements about them that hold at all times."""
