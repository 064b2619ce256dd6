"""Programs with integer factors."""
