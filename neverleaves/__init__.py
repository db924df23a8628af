"""Neverleaves: plants of whole numbers, goals that are kept for ever, and papers that show it."""
