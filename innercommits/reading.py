"""Reading the lines of a library into the bodies of its functions."""

from innercommits.errors import BadLibrary
from innercommits.modes import Mode, is_word

DEEPEST = 8
# The statements that a body follows.
LEADING = ("block", "maybe", "repeat", "try")
# The lines that go on with a `try`.
FOLLOWING = ("except", "finally")


class Statement:
    """A statement: the first word of its line, the second one, if it has one, and its bodies.

    number is that of the block, if it is one: the number of blocks in the lines before.
    """

    def __init__(self, words, number):
        self.kind = words[0]
        self.number = number
        self.word = words[1] if len(words) > 1 else ""
        # The errors behind `keep`.
        self.kept = tuple(words[3:])
        self.body = []
        # Pairs of errors, () for any, and a body.
        self.handlers = []
        # The body of `finally`, if there is one.
        self.last = None

    def inner_bodies(self):
        """All bodies that belong to the statement."""
        found = [self.body]
        for _, body in self.handlers:
            found.append(body)
        if self.last is not None:
            found.append(self.last)
        return found


class Header:
    """A line that a body follows; statement is the one that it belongs to, if any."""

    def __init__(self, words, statement, body):
        self.words = words
        self.statement = statement
        self.body = body

    def is_bare_try(self):
        """Whether there must still be a handler or `finally`."""
        return self.words[0] == "try"

    def can_go_on(self, kind):
        """Whether `except` or `finally` can stand behind the body."""
        if kind == "except":
            return self.words[0] == "try" or (self.words[0] == "except" and len(self.words) > 1)
        return self.words[0] in ("try", "except")


def split_line(line):
    """The level of nesting of a line and its words; (-1, []) if it is no line of a library."""
    bare = line.lstrip(" ")
    words = bare.split(" ")
    spaces = len(line) - len(bare)
    nesting = spaces // 2
    if nesting * 2 != spaces or not all([is_word(word) for word in words]):
        return (-1, [])
    if not _are_formed(words) or not _can_nest(words[0], nesting):
        return (-1, [])
    return (nesting, words)


def _are_formed(words):
    """Whether the words are those of some line."""
    kind = words[0]
    if kind in ("function", "write", "raise", "call"):
        return len(words) == 2
    if kind == "block":
        return len(words) > 1 and Mode.is_mode(words[1]) and _are_keeping(words[2:])
    if kind == "except":
        return True
    return kind in ("pass", "doom", "maybe", "repeat", "try", "finally") and len(words) == 1


def _are_keeping(words):
    """Whether the words can stand behind the mode of a block."""
    return words == [] or (words[0] == "keep" and len(words) > 1)


def _can_nest(kind, nesting):
    """Whether lines of this kind can have this level of nesting."""
    if kind == "function":
        return nesting == 0
    deepest = DEEPEST - 1 if kind in LEADING + FOLLOWING else DEEPEST
    return 1 <= nesting <= deepest


class Reader:
    """Takes the lines one after another; has the words of each, and the body of each function."""

    def __init__(self):
        self.rows = []
        self.bodies = {}
        # The lines within whose bodies the reader is, one for each level.
        self._headers = []
        self._many_blocks = 0

    def read(self, line):
        """Takes the next line."""
        nesting, words = split_line(line)
        if words == [] or not self._can_follow(nesting, words):
            raise BadLibrary(len(self.rows))
        self.rows.append(words)
        if words[0] == "function":
            self._add_function(words)
        elif words[0] in FOLLOWING:
            self._add_following(nesting, words)
        else:
            self._add_statement(nesting, words)

    def finish(self):
        """Tells that no line follows."""
        if self._lacks_body() or self._leaves_bare_try(0):
            raise BadLibrary(len(self.rows))

    def _lacks_body(self):
        """Whether the next line must begin the body of the last one."""
        return self._headers != [] and self._headers[-1].body == []

    def _leaves_bare_try(self, nesting):
        """Whether a line of this nesting would leave a `try` that lacks its handlers."""
        return any([header.is_bare_try() for header in self._headers[nesting:]])

    def _can_follow(self, nesting, words):
        """Whether a line of this nesting, with these words, can stand here."""
        kind = words[0]
        if self._lacks_body():
            return nesting == len(self._headers) and kind not in FOLLOWING
        if nesting > len(self._headers):
            return False
        if kind in FOLLOWING:
            if nesting == len(self._headers) or self._leaves_bare_try(nesting + 1):
                return False
            return self._headers[nesting].can_go_on(kind)
        if kind == "function" and words[1] in self.bodies:
            return False
        return not self._leaves_bare_try(nesting)

    def _add_function(self, words):
        """Begins the body of a function."""
        body = []
        self.bodies[words[1]] = body
        self._headers = [Header(words, None, body)]

    def _add_following(self, nesting, words):
        """Begins the body of a handler or of `finally`."""
        body = []
        statement = self._headers[nesting].statement
        if words[0] == "except":
            statement.handlers.append((tuple(words[1:]), body))
        else:
            statement.last = body
        self._headers = self._headers[:nesting] + [Header(words, statement, body)]

    def _add_statement(self, nesting, words):
        """Adds a statement to the body in which it stands."""
        statement = Statement(words, self._many_blocks)
        if words[0] == "block":
            self._many_blocks += 1
        self._headers = self._headers[:nesting]
        self._headers[-1].body.append(statement)
        if words[0] in LEADING:
            self._headers.append(Header(words, statement, statement.body))
