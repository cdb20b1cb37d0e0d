"""What counts as a number, for values of any kind."""


def is_number(value):
    """Whether any value is an integer and neither True nor False."""
    return isinstance(value, int) and not isinstance(value, bool)


def is_index(value, many):
    """Whether any value is an index of so many items, counted from 0."""
    return is_number(value) and 0 <= value < many
