"""An editor."""
