"""Pairs of states, and whether a text can have two results."""
