"""Sightstone: a stone carved from pictures of it."""
