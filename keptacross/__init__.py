"""Keptacross: a house of terms, and what a page still knows."""
