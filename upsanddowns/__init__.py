"""Ranked webs that keep their numbers, and walks that nobody has seen."""
