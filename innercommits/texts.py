"""Libraries, which are written as texts."""

from innercommits.bounds import check_calls
from innercommits.errors import BadChange, BadLibrary, Clash, NoFunction, TooMany
from innercommits.kinds import is_integer
from innercommits.modes import Mode, is_word
from innercommits.reading import Reader

LONGEST = 6000
# The errors that every library has.
COMMON_ERRORS = ("doomed", "missing", "present", "refused", "waits")
# The lines that are no statements.
NO_STATEMENTS = ("function", "except", "finally")
LEAST = "function a\n  pass"


def mentioned_errors(words):
    """The errors that a line mentions."""
    if words[0] == "block":
        return words[3:]
    if words[0] in ("raise", "except"):
        return words[1:]
    return []


def is_change(thing, many):
    """Whether thing, any value, gives one of so many blocks a mode."""
    if not isinstance(thing, tuple) or len(thing) != 2:
        return False
    return is_integer(thing[0]) and 0 <= thing[0] < many and Mode.is_mode(thing[1])


def with_mode(line, mode):
    """The line of a block with this mode in place of its own."""
    at = line.index("block")
    words = line[at:].split(" ")
    return line[:at] + " ".join([words[0], mode] + words[2:])


class Library:
    """The functions that a text defines."""

    def __init__(self, text):
        if not isinstance(text, str):
            raise BadLibrary(-1)
        if len(text) > LONGEST:
            raise TooMany("characters")
        self._take(text)

    def _take(self, text):
        """Reads and checks a text of any length, and becomes its library."""
        reader = Reader()
        lines = text.split("\n")
        for line in lines:
            reader.read(line)
        reader.finish()
        self._text = text
        self._rows = reader.rows
        self._bodies = reader.bodies
        self._statements = [words for words in reader.rows if words[0] not in NO_STATEMENTS]
        self._check_counts()
        check_calls(reader.bodies)

    def _check_counts(self):
        """Raises an error if there is too much of anything."""
        counts = (
            ("functions", len(self._bodies), 12),
            ("statements", len(self._statements), 80),
            ("records", len(self.records()), 6),
            ("errors", len(self.errors()), 11),
            ("blocks", len(self.blocks()), 16),
            ("unknown", len(self.unknown()), 4),
        )
        for what, many, most in counts:
            if many > most:
                raise TooMany(what)

    def __iter__(self):
        raise TypeError("a library is not iterated over")

    @staticmethod
    def joined(*libraries):
        """The library with the lines of all these, one behind another."""
        names = sorted([name for library in libraries for name in library.functions()])
        for at, name in enumerate(names[1:]):
            if name == names[at]:
                raise Clash(name)
        return Library("\n".join([str(library) for library in libraries]))

    def changed(self, changes):
        """The library in which the blocks have these modes; changes are pairs (number, mode)."""
        places = [at for at, words in enumerate(self._rows) if words[0] == "block"]
        modes = {}
        for index, change in enumerate(changes):
            if not is_change(change, len(places)) or change[0] in modes:
                raise BadChange(index)
            modes[change[0]] = change[1]
        lines = self._text.split("\n")
        for number in modes:
            at = places[number]
            lines[at] = with_mode(lines[at], modes[number])
        # The text can be longer now than one that a library is made of.
        made = Library(LEAST)
        made._take("\n".join(lines))
        return made

    def functions(self):
        """The names of the functions, ascending."""
        return sorted(self._bodies)

    def records(self):
        """The records that are written, ascending."""
        return sorted(set([words[1] for words in self._rows if words[0] == "write"]))

    def errors(self):
        """The errors of the library, ascending."""
        found = list(COMMON_ERRORS)
        for words in self._rows:
            found.extend(mentioned_errors(words))
        return sorted(set(found))

    def unknown(self):
        """The functions that are called and not defined, ascending."""
        called = [words[1] for words in self._rows if words[0] == "call"]
        return sorted(set([name for name in called if name not in self._bodies]))

    def blocks(self):
        """The modes of the blocks, by number."""
        return [words[1] for words in self._rows if words[0] == "block"]

    def body_of(self, name):
        """The statements of the function, which are not to be changed."""
        return self._bodies[name]

    def __len__(self):
        """The number of statements."""
        return len(self._statements)

    def __contains__(self, x):
        """Whether x, any value, is the name of a function."""
        return is_word(x) and x in self._bodies

    def __getitem__(self, at):
        """The lines of the function at, any value."""
        if not is_word(at) or at not in self._bodies:
            raise NoFunction(at)
        found = []
        is_inside = False
        for line in self._text.split("\n"):
            if not line.startswith(" "):
                is_inside = line == f"function {at}"
            if is_inside:
                found.append(line)
        return found

    def __eq__(self, other):
        """Whether other is a library with the same text."""
        if not isinstance(other, Library):
            return False
        return self._text == other._text

    def __str__(self):
        """The text."""
        return str(self._text)
