"""Which programs and bags are alike, and what shows it."""
