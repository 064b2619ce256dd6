"""Texts of programs and of what is said about them, and commands in texts."""
