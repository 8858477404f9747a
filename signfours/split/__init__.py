"""What shows that an algebra consists of all tables."""
