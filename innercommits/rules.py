"""Rules, which tell for each set of records whether it is allowed."""

from innercommits.errors import BadWord, TooMany
from innercommits.modes import is_word

MOST_RECORDS = 6


def subsets(names):
    """All subsets of the ascending names, each an ascending tuple."""
    found = [()]
    for name in names:
        found = found + [some + (name,) for some in found]
    return found


def united(names, others):
    """The ascending tuple of all the names in two tuples."""
    return tuple(sorted(set(names + others)))


def check_few(names):
    """Raises an error if these are more records than a rule may mention."""
    if len(names) > MOST_RECORDS:
        raise TooMany("records")


class Rule:
    """A rule about sets of records, made by `has`, `together`, `always` and the operators."""

    def __init__(self, names, allowed, text):
        # Other records do not matter, so it is enough to know which of the
        # subsets of the names are allowed.
        self._names = names
        self._allowed = {some: True for some in allowed}
        self._text = text

    @staticmethod
    def has(record):
        """The rule that the record is in the set."""
        if not is_word(record):
            raise BadWord(record)
        return Rule((record,), [(record,)], record)

    @staticmethod
    def together(*records):
        """The rule that all of these records are in the set, or none of them."""
        for record in records:
            if not is_word(record):
                raise BadWord(record)
        names = tuple(sorted(set(records)))
        check_few(names)
        text = " ".join(names)
        return Rule(names, [(), names], f"together({text})")

    @staticmethod
    def always():
        """The rule that allows every set."""
        return Rule((), [()], "always()")

    def _allows(self, kept):
        """Whether the rule allows the set."""
        return tuple([name for name in self._names if name in kept]) in self._allowed

    def __call__(self, kept):
        """Whether the rule allows the set kept, a tuple or list of words."""
        return self._allows(kept)

    def _names_with(self, other):
        """All records that this rule and the other one mention."""
        names = united(self._names, other._names)
        check_few(names)
        return names

    def __and__(self, other):
        """The rule that both rules allow the set."""
        names = self._names_with(other)
        allowed = [some for some in subsets(names) if self._allows(some) and other._allows(some)]
        return Rule(names, allowed, f"({self._text} and {other._text})")

    def __or__(self, other):
        """The rule that at least one of the two allows the set."""
        names = self._names_with(other)
        allowed = [some for some in subsets(names) if self._allows(some) or other._allows(some)]
        return Rule(names, allowed, f"({self._text} or {other._text})")

    def __rshift__(self, other):
        """The rule that where this one allows the set, the other one does, too."""
        names = self._names_with(other)
        allowed = [some for some in subsets(names) if other._allows(some) or not self._allows(some)]
        return Rule(names, allowed, f"({self._text} needs {other._text})")

    def __invert__(self):
        """The rule that this one does not allow the set."""
        allowed = [some for some in subsets(self._names) if not self._allows(some)]
        return Rule(self._names, allowed, f"not {self._text}")

    def records(self):
        """The records that the rule mentions, ascending."""
        return list(self._names)

    def __eq__(self, other):
        """Whether other is a rule that allows the same sets."""
        if not isinstance(other, Rule):
            return False
        every = subsets(united(self._names, other._names))
        return all([self._allows(some) == other._allows(some) for some in every])

    def __str__(self):
        """The rule with its operators as words."""
        return str(self._text)
