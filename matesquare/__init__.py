"""Squares of letters, and their mates."""
