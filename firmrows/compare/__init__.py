"""Questions compared with one another, for every database."""
