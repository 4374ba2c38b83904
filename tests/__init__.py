"""The tests of gatequarters."""
