"""What counts as a number within limits."""


def is_within(value, least, largest):
    """Whether the value is a whole number from least to largest; True and False are none."""
    return isinstance(value, int) and not isinstance(value, bool) and least <= value <= largest
