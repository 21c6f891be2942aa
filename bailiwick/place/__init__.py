"""Areas, and the shares and groups that hang on them."""
