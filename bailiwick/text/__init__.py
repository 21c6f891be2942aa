"""Texts of trees and units, line by line, and a shell."""
