"""What a whole number is."""


def is_whole(value):
    """Tell whether a value is a whole number."""
    # A truth is an int to Python, but no whole number here.
    return isinstance(value, int) and not isinstance(value, bool)


def is_whole_between(value, least, greatest):
    """Tell whether a value is a whole number from the least to the greatest, both with them."""
    return is_whole(value) and least <= value and value <= greatest
