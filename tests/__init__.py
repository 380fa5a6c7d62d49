"""The tests of factflows."""
