"""Lattices and orders, and the norms of their members."""
