"""Licences and the futures of a database."""
