"""Factflows: what a compiler's analyses tell of programs, compared."""
