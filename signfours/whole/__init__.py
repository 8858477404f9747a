"""Whole fours, their factors and points, sums of squares, and webs."""
