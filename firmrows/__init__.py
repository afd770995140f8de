"""Firmrows: answers of a database that nothing later can take back."""
