"""Questions about numbers that the checks of scripts and of effects share."""

MOST_FIELDS = 5
MOST_VALUE = 9


def is_number(thing, least, most):
    """Whether a value is an integer from least to most."""
    # Python counts a bool among the ints; here it is never an integer.
    if not isinstance(thing, int) or isinstance(thing, bool):
        return False
    return least <= thing <= most


def are_numbers(thing, least, most):
    """Whether a value is a tuple of integers from least to most."""
    return isinstance(thing, tuple) and all([is_number(number, least, most) for number in thing])


def is_field_count(thing):
    """Whether a value is a possible number of fields."""
    return is_number(thing, 1, MOST_FIELDS)


def is_field(thing, fields):
    """Whether a value is one of so many fields."""
    return is_number(thing, 0, fields - 1)


def is_value(thing):
    """Whether a value may stand in a field."""
    return is_number(thing, 0, MOST_VALUE)
