"""Papers, which show that a result is correct."""
