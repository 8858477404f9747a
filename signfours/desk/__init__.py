"""A desk of things and of sayings about them."""
