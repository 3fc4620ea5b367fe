"""What several modules need; nothing here imports the class of rewriters."""
