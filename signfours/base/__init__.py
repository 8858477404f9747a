"""Integers, ratios and primes."""
