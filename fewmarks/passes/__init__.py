"""One pass, and writing in place."""
