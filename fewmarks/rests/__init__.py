"""Rests: texts that are still to come."""
