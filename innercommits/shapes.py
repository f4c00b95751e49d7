"""Whether values of any kind are cases, faces and the like, where True and 1 are different."""

from innercommits.kinds import is_integer

STATES = ("none", "open", "doomed")


def is_tuple(thing, many):
    """Whether thing, any value, is a tuple of so many things."""
    return isinstance(thing, tuple) and len(thing) == many


def is_set(thing):
    """Whether thing, any value, is an ascending tuple of strings."""
    if not isinstance(thing, tuple) or not all([isinstance(part, str) for part in thing]):
        return False
    return all([before < after for before, after in zip(thing, thing[1:])])


def is_case(thing):
    """Whether thing, any value, is a tuple like a case."""
    if not is_tuple(thing, 3) or not isinstance(thing[0], str):
        return False
    return thing[0] in STATES and is_set(thing[1]) and is_set(thing[2])


def is_face(thing):
    """Whether thing, any value, is a tuple like a face."""
    if not is_tuple(thing, 5) or not isinstance(thing[0], str) or not isinstance(thing[1], bool):
        return False
    return is_set(thing[2]) and is_set(thing[3]) and is_set(thing[4])


def is_place(thing):
    """Whether thing, any value, is a pair like a function and a case."""
    return is_tuple(thing, 2) and isinstance(thing[0], str) and is_case(thing[1])


def is_number(thing):
    """Whether thing, any value, is an integer from 0 on."""
    return is_integer(thing) and thing >= 0
