"""Tests of the package shoretold."""
