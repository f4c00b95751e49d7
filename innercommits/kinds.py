"""What kind of value a value is, where True and 1 are different."""


def is_integer(thing):
    """Whether thing, any value, is an integer; truth values are none."""
    return isinstance(thing, int) and not isinstance(thing, bool)
