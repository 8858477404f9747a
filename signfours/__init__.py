"""Signfours: numbers of four parts that do not commute."""
