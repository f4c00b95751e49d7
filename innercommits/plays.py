"""Plays: what a caller and a library do on a new database, move by move."""

from innercommits.calls import records_with
from innercommits.errors import BadMove, BadRecords, NoCall, NotNow
from innercommits.frames import CALLER
from innercommits.machine import Machine
from innercommits.modes import Mode, is_word


def move_words(thing):
    """The words of a move; [] if thing, any value, is no move."""
    if not isinstance(thing, str):
        return []
    words = thing.split(" ")
    if len(words) == 1 and words[0] in ("yes", "no", "leave", "doom", "return"):
        return words
    if len(words) != 2:
        return []
    if words[0] == "enter" and Mode.is_mode(words[1]):
        return words
    if words[0] in ("leave", "write", "call", "raise") and is_word(words[1]):
        return words
    return []


def looked_at(library, records):
    """The looked-at records as an ascending tuple; those of the library if records is None."""
    if records is None:
        return tuple(library.records())
    for record in library.records():
        if record not in records:
            raise BadRecords(record)
    return tuple(sorted(records))


class Play:
    """A list of moves, to which others can be added, and all that came of them."""

    def __init__(self, library, *, strict=False, records=None):
        self._library = library
        self._machine = Machine(library, looked_at(library, records), strict)

    @staticmethod
    def of(library, moves, *, strict=False, records=None):
        """The play with these moves."""
        play = Play(library, strict=strict, records=records)
        for move in moves:
            play.move(move)
        return play

    def move(self, move):
        """Makes the move; returns the error that reaches the caller with it, or ""."""
        words = move_words(move)
        if words == []:
            raise BadMove(move)
        if not self._is_possible(words):
            raise NotNow(move)
        self._machine.make(words)
        return self._machine.reached

    def _is_possible(self, words):
        """Whether the move of these words is one of this moment."""
        kind = words[0]
        if self._machine.question != CALLER:
            return kind in ("yes", "no")
        if kind == "leave":
            return self.depth > 0
        if kind == "doom":
            return self._machine.db.is_open
        if kind == "call":
            return words[1] in self._library
        if kind in ("return", "raise"):
            return self.depth == 0 and not self._machine.is_outside()
        return kind in ("enter", "write")

    @property
    def moves(self):
        """The moves so far."""
        return tuple(self._machine.trail)

    @property
    def asked(self):
        """What is asked now: a tuple, ("caller",) if it is the caller's turn."""
        return self._machine.question

    @property
    def is_over(self):
        """Whether the caller is outside of all calls and all blocks."""
        return self._machine.is_outside() and self._machine.db.depth == 0

    @property
    def depth(self):
        """The number of blocks that the caller can leave now."""
        return self._machine.room()

    def call_names(self):
        """The names of the functions called, by the number of the call."""
        return [call.name for call in self._machine.calls]

    def _call(self, number):
        """The call of this number."""
        if not 0 <= number < len(self._machine.calls):
            raise NoCall(number)
        return self._machine.calls[number]

    def _ended_call(self, number):
        """The call of this number, if it has ended."""
        call = self._call(number)
        if call.face is None:
            raise NoCall(number)
        return call

    def is_ended(self, number):
        """Whether the call has ended."""
        return self._call(number).face is not None

    def case_of(self, number):
        """The case of the call: a tuple (state, outer, held)."""
        return self._call(number).case

    def face_of(self, number):
        """The face of the call: a tuple (end, doomed, held, kept, pending)."""
        return self._ended_call(number).face

    def length_of(self, number):
        """The number of moves behind the one that began the call, up to its last one."""
        return self._ended_call(number).length

    def kept_by(self, number):
        """The records kept of the call by now, ascending; if number is None of the caller."""
        if number is None:
            own = [write for owner, write in self._machine.made if owner is None]
            return records_with(own, "kept")
        return records_with(self._call(number).own, "kept")

    def writes(self):
        """Yields (number of the call or None, record, fate) for each write, in order."""
        for number, write in self._machine.made:
            yield (number, write.record, write.fate)

    def waits(self):
        """Yields (number of the call, record) for each write of the library that waits."""
        for number, record in self._machine.waited:
            yield (number, record)
