"""Fewmarks: what must be known of the text ahead."""
