"""Things written by words, and read back."""
