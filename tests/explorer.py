"""All plays up to some number of moves, tried one by one, and libraries by chance for tables."""

from innercommits.errors import Endless, InnercommitsError, TooMany
from innercommits.modes import Mode
from innercommits.plays import Play
from innercommits.texts import Library
from tests.library_model import Writer

SIMPLE = ("write",) * 12 + ("call",) * 4 + ("raise", "doom")


def some_library(chance, size, called=("f", "g", "u"), records=("a", "b", "c"), names=("f", "g"), most=30,
                 modes=Mode.ALL):
    """A text of a library with which a table can be made."""
    while True:
        errors = chance.choice((("late",), ("late", "bad", "refused", "waits", "doomed")))
        writer = Writer(chance, names=names, called=called, records=records, errors=errors, simple=SIMPLE,
                        modes=modes)
        text = writer.library(size)
        try:
            if len(Library(text)) <= most:
                return text
        except (Endless, TooMany):
            pass


def tried(library, moves, **more):
    """The play with these moves, None if there is none."""
    try:
        return Play.of(library, moves, **more)
    except InnercommitsError:
        return None


class Explorer:
    """Goes through all plays with one call at most, of some words of callers.

    If closing, only through those that can still be over, with a call, within the number of moves.
    """

    def __init__(self, library, name, words, longest, closing=False, **more):
        self.library, self.words, self.longest, self.more = library, [f"call {name}", *words], longest, more
        self.closing = closing

    def plays(self, start=()):
        """All plays that begin so."""
        waiting = [tuple(start)]
        while waiting:
            moves = waiting.pop()
            play = tried(self.library, moves, **self.more)
            if play is not None and self.can_close(play, moves):
                yield play
                if len(moves) < self.longest:
                    waiting.extend(moves + (word,) for word in self.words_now(play))

    def can_close(self, play, moves):
        rest = self.longest - len(moves)
        return not self.closing or play.depth + (not play.call_names()) <= rest

    def words_now(self, play):
        if play.asked != ("caller",):
            return ["yes", "no"]
        return [word for word in self.words if word[:4] != "call" or not play.call_names()]


def ended_with_last(play):
    """Whether the only call of a play has ended with the last move."""
    if len(play.call_names()) != 1 or not play.is_ended(0):
        return False
    begun = [move[:4] for move in play.moves].index("call")
    return begun + 1 + play.length_of(0) == len(play.moves)
