"""What programs depend on, and what they do not see."""
