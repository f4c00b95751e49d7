"""Executes a library together with its caller, and tells what the caller's part is as moves."""

from innercommits.machine import Machine


class Crossing:
    """A function of the library or of the caller that the other one has called."""

    def go_on(self, machine, end):
        """Goes back to the one that called."""
        machine.drop()
        machine.go_back(end)
        return end


class Tracer(Machine):
    """Executes a joined library; has the moves of a play of the inner one alone."""

    def __init__(self, joined, inner, strict):
        Machine.__init__(self, joined, (), strict)
        self.told = []
        self._inner = inner
        # Whether functions of the inner library are executed, and not of the caller.
        self._is_inside = False
        self._is_strict = strict

    def make(self, words):
        """Makes a move; an answer to the inner library is a move of its play, too."""
        if self._is_inside:
            self.told.append(words[0])
        super().make(words)

    def _begin_function(self, name):
        """Begins a function, which may be one of the other side."""
        was_inside = self._is_inside
        self._is_inside = name in self._inner
        if was_inside != self._is_inside:
            if self._is_inside:
                self.told.append(f"call {name}")
            self.put(Crossing())
        super()._begin_function(name)

    def go_back(self, end):
        """Goes back to the side that called, from a function that has ended so."""
        if not self._is_inside:
            self.told.append("return" if end == "" else f"raise {end}")
        self._is_inside = not self._is_inside

    def begin_statement(self, statement):
        """Executes a statement, or begins to."""
        if statement.kind == "doom" and not self._is_inside and self.db.is_open:
            self.told.append("doom")
        return super().begin_statement(statement)

    def _begin_block(self, statement):
        """Enters the block of a statement; one that cannot be entered is no move."""
        word = super()._begin_block(statement)
        if word == "" and not self._is_inside:
            self.told.append(f"enter {statement.word}")
        return word

    def leave(self, error, commits):
        """Leaves a block; the answer about a commit has been given before."""
        if not self._is_inside:
            if error is not None:
                self.told.append(f"leave {error}")
            elif self.db.would_commit():
                self.told.extend(["leave", "yes" if commits else "no"])
            else:
                self.told.append("leave")
        return super().leave(error, commits)

    def write_here(self, record):
        """Writes the record."""
        if not self._is_inside:
            self.told.append(f"write {record}")
        super().write_here(record)

    def fail_write(self, word):
        """Ends a write by this word; the caller's dooms the top level by a move of its own."""
        if self._is_strict and not self._is_inside and self.db.is_open:
            self.told.append("doom")
        return super().fail_write(word)
