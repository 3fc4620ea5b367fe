"""Patterns, and books of rules."""
