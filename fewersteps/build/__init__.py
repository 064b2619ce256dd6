"""Programs that are built of others, of rules and of recipes."""
