"""Tests of the package firmrows."""
