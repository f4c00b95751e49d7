"""Lays the bodies of a library out as points."""

from innercommits.codes import WIDTH
from innercommits.points import EFFECTS, PARTED, BlockPoint, CallPoint, CatchPoint, ChoicePoint, DoomPoint
from innercommits.points import JoinedPoint, LastPoint, RaisePoint, TurnPoint, WritePoint

LETTERS = "abcdefghijklmnopqrstuvwxyz"


def strange_word(library):
    """A word that the library does not mention."""
    mentioned = {word: True for word in str(library).split()}
    # A library has room for fewer words than these.
    for first in LETTERS:
        for second in LETTERS:
            for third in LETTERS:
                word = f"odd{first}{second}{third}"
                if word not in mentioned:
                    return word
    return "odd"


def can_part(mode):
    """Whether the body of a block of this mode can begin in a situation of its own."""
    return any([effect in PARTED for effect in EFFECTS[mode]])


class Layout:
    """The points of a library, and the keys at which its parts begin.

    A part is a body that is executed from a case, whatever stands around it: first
    there are those of the functions, ascending by name, then those of blocks and of
    `finally`. It has ended at the key 0. Other bodies are laid out where they stand.
    """

    def __init__(self, library, codes, looked, *, strict, silent):
        self.points = [None]
        # Pairs of the number of a block and a point of it.
        self.blocks_laid = []
        self._codes = codes
        self._strict = strict
        self.names = library.functions()
        self.numbers = {name: number for number, name in enumerate(self.names)}
        self._raises = self._raising_moves(library)
        self._writes = []
        if not silent:
            self._writes = [(codes.bit(record), f"write {record}") for record in looked]
        # Parts by the statement to which they belong.
        self._bodies = {}
        self._lasts = {}
        self.starts = [0 for _ in self.names]
        for number, name in enumerate(library.functions()):
            self.starts[number] = self._line_up(library.body_of(name), 0, 0)

    def _raising_moves(self, library):
        """How an unknown function can end by an error: pairs of bits and a move."""
        found = [(self._codes.bits[error], f"raise {error}") for error in library.errors()]
        found.append((self._codes.bits["?"], f"raise {strange_word(library)}"))
        return found

    def _room(self):
        """The key of a point that is still to be put in its place."""
        self.points.append(None)
        return (len(self.points) - 1) << WIDTH

    def _put(self, point):
        """The key of the point, which is new."""
        self.points.append(point)
        return (len(self.points) - 1) << WIDTH

    def _line_up(self, body, after, fail):
        """The key of the body's first point, if it ends at the keys after and fail."""
        key = after
        for statement in reversed(list(body)):
            key = self._point(statement, key, fail)
        return key

    def _part(self, body):
        """The number of a new part with this body."""
        self.starts.append(self._line_up(body, 0, 0))
        return len(self.starts) - 1

    def _point(self, statement, after, fail):
        """The key of the point of a statement that ends at the keys after and fail."""
        kind = statement.kind
        bits = self._codes.bits
        if kind == "raise":
            return self._put(RaisePoint(fail, bits[statement.word]))
        if kind == "doom":
            return self._put(DoomPoint(after, fail))
        if kind == "write":
            bit = self._codes.bit(statement.word)
            return self._put(WritePoint(after, fail, bit, bits, self._strict))
        if kind == "call":
            return self._call(statement.word, after, fail)
        if kind == "maybe":
            return self._put(ChoicePoint(after, self._line_up(statement.body, after, fail)))
        if kind == "repeat":
            here = self._room()
            self.points[here >> WIDTH] = ChoicePoint(after, self._line_up(statement.body, here, fail))
            return here
        if kind == "block":
            return self._block(statement, after, fail)
        if kind == "try":
            return self._attempt(statement, after, fail)
        # Nothing happens at `pass`.
        return after

    def _call(self, name, after, fail):
        """The key of a call."""
        if name in self.numbers:
            return self._put(CallPoint(after, fail, self.numbers[name]))
        here = self._room()
        self.points[here >> WIDTH] = TurnPoint(after, fail, here, self._raises, self._writes)
        return here

    def _block(self, statement, after, fail):
        """The key of a block."""
        mode = statement.word
        kept = {self._codes.bits[error]: True for error in statement.kept}
        point = BlockPoint(after, fail, mode, self._codes.bits, kept)
        if "joins" in EFFECTS[mode]:
            point.start = self._line_up(statement.body, after, self._put(JoinedPoint(fail, kept)))
        if can_part(mode):
            if statement not in self._bodies:
                self._bodies[statement] = self._part(statement.body)
            point.part = self._bodies[statement]
        self.blocks_laid.append((statement.number, point))
        return self._put(point)

    def effects_seen(self):
        """What entering blocks has been found to do, by the number of the block and the place."""
        found = {}
        for number, point in self.blocks_laid:
            for at, effect in point.seen.items():
                found[(number, at)] = effect
        return found

    def _attempt(self, statement, after, fail):
        """The key of what stands behind `try`, with its handlers and `finally` around it."""
        if statement.last is not None:
            if statement not in self._lasts:
                self._lasts[statement] = self._part(statement.last)
            after = fail = self._put(LastPoint(after, fail, self._lasts[statement]))
        starts = {}
        other = None
        for errors, body in list(statement.handlers):
            key = self._line_up(body, after, fail)
            if errors == ():
                other = key
            for error in errors:
                starts.setdefault(self._codes.bits[error], key)
        return self._line_up(statement.body, after, self._put(CatchPoint(fail, starts, other)))
