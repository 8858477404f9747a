"""What an integer is, and which integers can be passed."""

TOO_LONG = 10 ** 60


def is_integer(value):
    """Whether the value is an integer of any length; True and False are none."""
    return isinstance(value, int) and not isinstance(value, bool)


def is_passed(value):
    """Whether the value is an integer that can be passed: one of at most sixty digits."""
    return is_integer(value) and abs(value) < TOO_LONG


def is_triple(value):
    """Whether the value is a tuple of three integers of any length."""
    return isinstance(value, tuple) and len(value) == 3 and all([is_integer(part) for part in value])
