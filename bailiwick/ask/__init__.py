"""Filters, indexes, searches, and what is told of them again and again."""
