"""Pilenets: rows sorted by piles and lines."""
