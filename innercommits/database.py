"""A database with blocks, transactions, levels and writes, held in memory."""

from innercommits.errors import BadMode, BadWord, NoBlock, NoRecord
from innercommits.errors import Doomed, Failed, Missing, Present, Refused, Waits
from innercommits.modes import Mode, is_word

# What leaving a block does: it ends the top level, it can doom it, or nothing.
ENDS = "ends"
DOOMS = "dooms"
NOTHING = "nothing"


class Write:
    """One write that was made; holder is its transaction, None without one."""

    def __init__(self, record, value, holder):
        self.record = record
        self.value = value
        self.holder = holder
        self.fate = "open"


class Transaction:
    """The open writes of a transaction, in order, and where its levels start.

    Only the top level is ever doomed, so one first word is enough for all.
    """

    def __init__(self):
        self.own = []
        self.starts = [0]
        self.first = None

    def doom(self, first):
        """Dooms the top level by this word, unless it is doomed already."""
        if self.first is None:
            self.first = first


class Database:
    """Blocks that are entered and left, and the writes that are made in them."""

    def __init__(self):
        self._present = None
        # For each block what it does when it is left, and the transaction
        # that was present before it, which is present behind it again.
        self._blocks = []
        # How many of the blocks were entered before the deed that is running.
        self._floor = 0
        self._made = []
        # The open writes of each record that is held. A record is held by one
        # transaction only, as a write of it in another one would wait.
        self._held = {}
        self._kept = {}

    def __iter__(self):
        raise TypeError("a database is not iterated over")

    def enter(self, mode):
        """Enters a block in this mode."""
        if not Mode.is_mode(mode):
            raise BadMode(mode)
        before = self._present
        if before is None:
            effect = self._enter_free(mode)
        else:
            effect = self._enter_present(mode, before)
        self._blocks.append((effect, before))

    def _enter_free(self, mode):
        """Begins a block where no transaction is present; tells what leaving it does."""
        if mode == Mode.MUST:
            raise Missing(mode)
        if mode in (Mode.EITHER, Mode.NEVER, Mode.OUTSIDE):
            return NOTHING
        self._present = Transaction()
        return ENDS

    def _enter_present(self, mode, present):
        """Begins a block in the present transaction; tells what leaving it does."""
        if mode in (Mode.NEVER, Mode.ALONE):
            raise Present(mode)
        if mode in (Mode.JOIN, Mode.MUST, Mode.EITHER):
            return DOOMS
        if mode == Mode.OUTSIDE:
            self._present = None
            return NOTHING
        if mode == Mode.APART:
            self._present = Transaction()
            return ENDS
        if present.first is not None:
            raise Doomed(present.first)
        present.starts.append(len(present.own))
        return ENDS

    def leave(self, error=None, *, commits=True):
        """Leaves the innermost block, well or by the word error."""
        if len(self._blocks) == self._floor:
            raise NoBlock()
        if error is not None and not is_word(error):
            raise BadWord(error)
        first = self.reason
        ending = self._end_block(error, commits)
        if ending == "doomed":
            raise Doomed(first)
        if ending == "refused":
            raise Refused()

    def _end_block(self, error, commits):
        """Ends the innermost block; returns the word of the error that this is, or ""."""
        effect, before = self._blocks.pop()
        present = self._present
        self._present = before
        if effect == ENDS:
            return self._end_level(present, error, commits)
        if effect == DOOMS and error is not None:
            present.doom(error)
        return ""

    def _end_level(self, transaction, error, commits):
        """Ends the top level; returns the word of the error that this is, or ""."""
        start = transaction.starts.pop()
        first = transaction.first
        # No level is added above a doomed one, so the one below is not doomed.
        transaction.first = None
        if error is not None or first is not None:
            self._undo(transaction, start)
            return "" if error is not None else "doomed"
        if transaction.starts:
            # As no level begins at start now, its writes are of the level below.
            return ""
        if not commits:
            self._undo(transaction, start)
            return "refused"
        self._keep(transaction)
        return ""

    def _undo(self, transaction, start):
        """Undoes the open writes of the transaction, those from number start on."""
        while len(transaction.own) > start:
            write = transaction.own.pop()
            write.fate = "undone"
            same = self._held[write.record]
            same.pop()
            if not same:
                del self._held[write.record]

    def _keep(self, transaction):
        """Keeps all the open writes of the transaction."""
        for write in transaction.own:
            write.fate = "kept"
            self._kept[write.record] = write
            self._held.pop(write.record, None)

    def __setitem__(self, at, worth):
        """Makes a write of the record at, with the value worth."""
        if not is_word(at):
            raise BadWord(at)
        present = self._present
        if self.is_doomed:
            raise Doomed(self.reason)
        if self.has_suspended(at):
            raise Waits(at)
        write = Write(at, worth, present)
        self._made.append(write)
        if present is None:
            write.fate = "kept"
            self._kept[at] = write
        else:
            present.own.append(write)
            self._held.setdefault(at, []).append(write)

    def _seen(self, record):
        """The write of the record that is seen, None if there is none."""
        if self.holds(record):
            return self._held[record][-1]
        return self._kept.get(record)

    def _is_holder(self, record):
        """Whether the present transaction is the one that holds the held record."""
        return self._held[record][0].holder == self._present

    def __getitem__(self, at):
        """The value of the record at that is seen."""
        if not is_word(at):
            raise BadWord(at)
        write = self._seen(at)
        if write is None:
            raise NoRecord(at)
        return write.value

    def __contains__(self, x):
        """Whether x, any value, is a record of which a write is seen."""
        return is_word(x) and self._seen(x) is not None

    def doom(self, first="doom"):
        """Dooms the top level of the present transaction, if there is one."""
        if not is_word(first):
            raise BadWord(first)
        if self._present is not None:
            self._present.doom(first)

    @property
    def is_open(self):
        """Whether there is a present transaction."""
        return self._present is not None

    @property
    def is_doomed(self):
        """Whether the top level of the present transaction is doomed."""
        return self.reason is not None

    @property
    def reason(self):
        """The first word of the present transaction's top level, or None."""
        if self._present is None:
            return None
        return self._present.first

    @property
    def levels(self):
        """The number of levels of the present transaction."""
        if self._present is None:
            return 0
        return len(self._present.starts)

    @property
    def depth(self):
        """The number of blocks that remain."""
        return len(self._blocks)

    def holds(self, record):
        """Whether the present transaction holds the record."""
        return record in self._held and self._is_holder(record)

    def has_suspended(self, record):
        """Whether a suspended transaction holds the record."""
        return record in self._held and not self._is_holder(record)

    def would_commit(self):
        """Whether a transaction is to be committed if the innermost block is left well."""
        if not self._blocks:
            return False
        effect, _ = self._blocks[-1]
        return effect == ENDS and self.levels == 1 and not self.is_doomed

    def last_write(self):
        """The write that was made last; its fate changes as it is kept or undone."""
        return self._made[-1]

    def held_records(self):
        """The records that the present transaction holds, ascending."""
        return sorted([record for record in self._held if self.holds(record)])

    def outer_records(self):
        """The records that suspended transactions hold, ascending."""
        return sorted([record for record in self._held if self.has_suspended(record)])

    def kept_values(self):
        """The last kept value of each record of which a write is kept, ascending."""
        return {record: self._kept[record].value for record in sorted(self._kept)}

    def fates(self):
        """Yields (record, value, fate) for each write, in the order in which they were made."""
        for write in self._made:
            yield (write.record, write.value, write.fate)

    def within(self, mode, deed, *, keep=(), commits=True):
        """Calls the deed with this database in a block; returns what it returns."""
        self.enter(mode)
        floor = self._floor
        self._floor = len(self._blocks)
        try:
            told = deed(self)
            if len(self._blocks) > self._floor:
                raise Failed("unleft")
        except (Doomed, Missing, Present, Refused, Waits, Failed) as problem:
            self._leave_above(self._floor, problem.word)
            error = None if problem.word in keep else problem.word
            if self._end_block(error, commits) == "refused":
                raise Refused() from None
            raise
        finally:
            self._floor = floor
        self.leave(commits=commits)
        return told

    def _leave_above(self, floor, word):
        """Leaves all blocks but so many by this word."""
        while len(self._blocks) > floor:
            self._end_block(word, True)
