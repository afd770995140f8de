"""Questions that never lose an answer when rows come."""
