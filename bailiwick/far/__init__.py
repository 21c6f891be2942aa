"""Servers that hold parts of a tree, and guides that ask them."""
