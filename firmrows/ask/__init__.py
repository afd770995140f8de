"""Questions and their matches."""
