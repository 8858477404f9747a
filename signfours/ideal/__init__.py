"""Ideals of greatest orders, their classes and their neighbours."""
