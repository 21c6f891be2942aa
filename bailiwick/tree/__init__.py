"""Trees of entries, their links, and what is done to them."""
