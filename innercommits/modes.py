"""The words and the eight modes of blocks."""


def is_word(thing):
    """Whether thing, any value, is a string of one to eight letters a to z."""
    if not isinstance(thing, str) or not 1 <= len(thing) <= 8:
        return False
    return all(["a" <= letter <= "z" for letter in thing])


class Mode:
    """The modes in which a block can be entered."""

    JOIN = "join"
    INNER = "inner"
    APART = "apart"
    MUST = "must"
    EITHER = "either"
    NEVER = "never"
    OUTSIDE = "outside"
    ALONE = "alone"
    ALL = ("join", "inner", "apart", "must", "either", "never", "outside", "alone")

    @staticmethod
    def is_mode(thing):
        """Whether thing, any value, is a mode."""
        return isinstance(thing, str) and thing in Mode.ALL
