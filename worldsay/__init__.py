"""Worldsay: who knows what, when, and papers that show it."""
