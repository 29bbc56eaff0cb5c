"""Tests of the package, run from the top of the repository."""
