"""Programs, as finite tables of places."""
