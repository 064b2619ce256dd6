"""Fewersteps: programs with several sources and sinks, and when they are alike."""
