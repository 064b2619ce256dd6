"""Programs that are changed into others that are alike to them."""
