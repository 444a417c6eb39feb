"""Bestheard: cells that take the best of what they hear, decided for networks of every shape."""
