"""Regrowth: a text that is read anew only where it changed."""
