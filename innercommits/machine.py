"""What executes a library, from one move of a play to the next."""

from innercommits.calls import Call, case_now, face_now
from innercommits.database import Database
from innercommits.errors import Doomed, Missing, Present, Refused
from innercommits.frames import CALLER, Block, Body, Called, Choice, Finishing, Handling
from innercommits.frames import Leaving, Repetition, Turn, Writing


class Machine:
    """A library in execution, with a database of its own, and all that has happened."""

    def __init__(self, library, looked, strict):
        self.db = Database()
        # None while the library is executed.
        self.question = CALLER
        # The error that reached the caller with the last move, "" if none did.
        self.reached = ""
        self.trail = []
        self.calls = []
        # Pairs of the number of a call, or None, and a write.
        self.made = []
        # Pairs of the number of a call and a record.
        self.waited = []
        self._library = library
        self._looked = looked
        self._strict = strict
        self._known = {word: True for word in library.errors()}
        # Frames, and not functions that call themselves, as calls can be
        # thousands deep.
        self._stack = [Turn(0)]
        # The calls that have not ended, the innermost last.
        self._running = []

    def room(self):
        """The number of blocks that the caller can leave now."""
        if self.question != CALLER:
            return 0
        return self.db.depth - self._stack[-1].floor

    def is_outside(self):
        """Whether it is the caller's turn outside of all calls."""
        return len(self._stack) == 1

    def make(self, words):
        """Makes the move of these words, which must be possible now."""
        kind = words[0]
        if kind in ("yes", "no"):
            self._execute(self._stack[-1].answered(self, kind == "yes"))
        elif kind == "call":
            self._begin_call(words[1])
            self._execute("")
        elif kind in ("return", "raise"):
            self.drop()
            self._execute("" if kind == "return" else words[1])
        elif words == ["leave"] and self.db.would_commit():
            self.put(Leaving())
            self.ask(("commit",))
            self.reached = ""
        else:
            self.reached = self._make_own(words)
        self.trail.append(" ".join(words))

    def _make_own(self, words):
        """Makes a move that needs no library; returns the error that reaches the caller."""
        kind = words[0]
        if kind == "enter":
            self.db.enter(words[1])
        elif kind == "write":
            self._write(words[1], None)
        elif kind == "doom":
            self.db.doom()
        else:
            return self.leave(words[1] if len(words) == 2 else None, True)
        return ""

    def _begin_call(self, name):
        """Begins a call by the caller."""
        case = case_now(self.db, self._looked)
        call = Call(len(self.calls), name, len(self.trail), case)
        self.calls.append(call)
        self._running.append(call)
        self.put(Called(call))
        self.put(Body(self._library.body_of(name)))

    def end_call(self, call, end):
        """Takes down how the innermost call ended."""
        self._running.pop()
        told = end if end == "" or end in self._known else "?"
        call.face = face_now(self.db, self._looked, call.own, told)
        call.length = len(self.trail) - call.begun

    def _execute(self, end):
        """Executes the library, whose last part ended so, until something is asked."""
        self.question = None
        self.reached = ""
        while self.question is None:
            end = self._stack[-1].go_on(self, end)

    def put(self, frame):
        """Puts a frame on the stack."""
        self._stack.append(frame)

    def drop(self):
        """Takes the top frame off the stack."""
        self._stack.pop()

    def ask(self, question):
        """Lets the caller answer the question."""
        self.question = question

    def begin_statement(self, statement):
        """Executes a statement, or puts on the stack what does; returns its end so far."""
        kind = statement.kind
        if kind == "raise":
            return statement.word
        if kind == "write":
            return self._begin_write(statement.word)
        if kind == "block":
            return self._begin_block(statement)
        if kind == "doom":
            self.db.doom()
        elif kind == "call":
            self._begin_function(statement.word)
        elif kind == "maybe":
            self.put(Choice(statement.body))
        elif kind == "repeat":
            self.put(Repetition(statement.body))
        elif kind == "try":
            self._begin_try(statement)
        return ""

    def _begin_write(self, record):
        """Asks whether the record is written, if it can be; returns the error if not."""
        if self.db.is_doomed:
            return "doomed"
        if self.db.has_suspended(record):
            self.waited.append((self._running[-1].number, record))
            return self.fail_write("waits")
        self.put(Writing(record))
        return ""

    def write_here(self, record):
        """Writes the record for the call that is executed."""
        call = self._running[-1]
        self._write(record, call.number)
        call.own.append(self.db.last_write())

    def _write(self, record, number):
        """Writes the record for the call of this number or, if it is None, for the caller."""
        # The values that are written do not matter in a play.
        self.db[record] = 0
        self.made.append((number, self.db.last_write()))

    def fail_write(self, word):
        """Ends a write of the library by this word, and returns it."""
        if self._strict:
            self.db.doom(word)
        return word

    def _begin_block(self, statement):
        """Enters the block of a statement; returns the error if it cannot be entered."""
        try:
            self.db.enter(statement.word)
        except (Doomed, Missing, Present) as problem:
            return problem.word
        self.put(Block(statement.kept))
        self.put(Body(statement.body))
        return ""

    def leave(self, error, commits):
        """Leaves a block, by the error if it is not None; returns the error that this is."""
        try:
            self.db.leave(error, commits=commits)
        except (Doomed, Refused) as problem:
            return problem.word
        return ""

    def _begin_function(self, name):
        """Begins a function that the library calls, an unknown one as the caller's turn."""
        if name in self._library:
            self.put(Body(self._library.body_of(name)))
        else:
            self.put(Turn(self.db.depth))

    def _begin_try(self, statement):
        """Begins a statement `try`."""
        if statement.last is not None:
            self.put(Finishing(statement.last))
        self.put(Handling(statement.handlers))
        self.put(Body(statement.body))
