"""Places, and the signs of two numbers at them."""
