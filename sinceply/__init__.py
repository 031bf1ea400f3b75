"""Sinceply: thin nets of ties, for every stretch of time."""
