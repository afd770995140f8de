"""What goes on while rows come and go: edits, caches, engines, networks and a store."""
