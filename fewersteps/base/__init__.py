"""What programs are written over: streams, and the numbers that callers pass."""
