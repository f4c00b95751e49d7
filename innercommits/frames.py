"""What the library is in the midst of: each frame waits for the part that stands above it.

A machine has the frames on a stack. It tells the top one by which error the
part above it has ended (`go_on`), or what a question that it asked was
answered (`answered`). Both return the error by which the frame itself, or what
it has done, has ended. An end is a word, or "" if it was well; a frame that
has just been put on the stack is told "".
"""

# What is asked when it is the caller's turn.
CALLER = ("caller",)


class Body:
    """Statements that are executed one after another."""

    def __init__(self, statements):
        self._statements = statements
        self._at = 0

    def go_on(self, machine, end):
        """Begins the next statement, unless the last one ended by an error."""
        if end != "" or self._at == len(self._statements):
            machine.drop()
            return end
        statement = self._statements[self._at]
        self._at += 1
        return machine.begin_statement(statement)


class Writing:
    """A write of which it is a question whether it is made."""

    def __init__(self, record):
        self.record = record

    def go_on(self, machine, end):
        """Asks."""
        machine.ask(("write", self.record))
        return end

    def answered(self, machine, yes):
        """Makes the write or refuses it."""
        machine.drop()
        if yes:
            machine.write_here(self.record)
            return ""
        return machine.fail_write("refused")


class Choice:
    """A body that may be executed."""

    def __init__(self, body):
        self._body = body

    def go_on(self, machine, end):
        """Asks."""
        machine.ask(("maybe",))
        return end

    def answered(self, machine, yes):
        """Executes the body or not."""
        machine.drop()
        if yes:
            machine.put(Body(self._body))
        return ""


class Repetition:
    """A body that may be executed again and again."""

    def __init__(self, body):
        self._body = body

    def go_on(self, machine, end):
        """Asks, unless the body ended by an error."""
        if end != "":
            machine.drop()
        else:
            machine.ask(("repeat",))
        return end

    def answered(self, machine, yes):
        """Executes the body or ends."""
        if yes:
            machine.put(Body(self._body))
        else:
            machine.drop()
        return ""


class Block:
    """A block that was entered; kept are the errors by which it is left well."""

    def __init__(self, kept):
        self._kept = kept
        self._end = ""

    def go_on(self, machine, end):
        """Leaves the block as its body ended; asks first where there is a commit."""
        self._end = end
        if end != "" and end not in self._kept:
            machine.leave(end, True)
            machine.drop()
            return end
        if machine.db.would_commit():
            machine.ask(("commit",))
            return ""
        return self.answered(machine, True)

    def answered(self, machine, yes):
        """Leaves the block well; the commit, if there is one, is made or refused."""
        machine.drop()
        word = machine.leave(None, yes)
        if word == "refused" or self._end == "":
            return word
        return self._end


class Handling:
    """The body of `try`, whose errors are handled."""

    def __init__(self, handlers):
        self._handlers = handlers

    def go_on(self, machine, end):
        """Executes a handler of the error in place of the body."""
        machine.drop()
        if end == "":
            return ""
        for errors, body in self._handlers:
            if errors == () or end in errors:
                machine.put(Body(body))
                return ""
        return end


class Finishing:
    """The parts of `try` before `finally`, whose body is executed behind them in any case."""

    def __init__(self, last):
        self._last = last
        # How the parts before ended, once they have.
        self._end = None

    def go_on(self, machine, end):
        """Executes the body of `finally`, and then ends by its error or the one before."""
        if self._end is None:
            self._end = end
            machine.put(Body(self._last))
            return ""
        machine.drop()
        return self._end if end == "" else end


class Called:
    """A function that the caller called: the call ends with it."""

    def __init__(self, call):
        self._call = call

    def go_on(self, machine, end):
        """Ends the call."""
        machine.drop()
        machine.end_call(self._call, end)
        return end


class Turn:
    """The caller, outside of all calls or within an unknown function.

    The blocks that are not the caller's to leave here are counted by floor.
    """

    def __init__(self, floor):
        self.floor = floor

    def go_on(self, machine, end):
        """Lets the caller move, whom the error reaches."""
        machine.reached = end
        machine.ask(CALLER)
        return end


class Leaving:
    """A block of the caller's that is left well, with a commit."""

    def answered(self, machine, yes):
        """Leaves the block; the commit is made or refused."""
        machine.drop()
        return machine.leave(None, yes)
