"""Rows of differences, and copies that catch up."""
