"""Silentdecks: a common answer of secret bits by cards, and nothing beside."""
