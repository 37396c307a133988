"""Marks of which any two together have a sum of their own."""
