"""Words, rewriters, and their paths and results."""
