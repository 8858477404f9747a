"""Algebras and their fours."""
