"""Shoretold: an island of ditches told by its shore."""
