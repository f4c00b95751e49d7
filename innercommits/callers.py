"""Runs: callers that are written as libraries."""

from innercommits.errors import NoFunction, Unknown
from innercommits.plays import Play
from innercommits.texts import Library
from innercommits.tracing import Tracer


def inner_moves(joined, library, moves, strict):
    """The moves of the library's own play within the moves of one of the joined library."""
    tracer = Tracer(joined, library, strict)
    for move in moves:
        tracer.make(move.split(" "))
    return tracer.told


class Run:
    """A caller and a library, from a function of the caller to its end."""

    def __init__(self, library, caller, start, answers, *, strict=False):
        joined = Library.joined(library, caller)
        unknown = joined.unknown()
        if unknown != []:
            raise Unknown(unknown[0])
        if start not in caller:
            raise NoFunction(start)
        self.whole = Play(joined, strict=strict)
        self.end = self._play_whole(start, list(answers))
        told = inner_moves(joined, library, self.whole.moves, strict)
        self.alone = Play.of(library, told, strict=strict)

    def _play_whole(self, start, answers):
        """Plays the joined library to the end of its call; returns the error of this."""
        end = self.whole.move(f"call {start}")
        at = 0
        while not self.whole.is_over:
            end = self.whole.move(answers[at] if at < len(answers) else "no")
            at += 1
        return end
