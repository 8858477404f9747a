"""Forms in two and in three unknowns."""
