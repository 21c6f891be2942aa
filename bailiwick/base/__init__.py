"""Words, texts, kinds and names."""
