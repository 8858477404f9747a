"""Texts of algebras, fours and lattices."""
