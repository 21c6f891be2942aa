"""Bailiwick: a directory that answers as one tree."""
