"""The errors of the package; the fields of each are what it is made with."""


class InnercommitsError(ValueError):
    """The base class of all errors of this package."""


class BadWord(InnercommitsError):
    """A value that should be a word is none."""

    def __init__(self, word):
        self.word = word


class BadMode(InnercommitsError):
    """A value that should be a mode is none."""

    def __init__(self, mode):
        self.mode = mode


class NoBlock(InnercommitsError):
    """There is no block that can be left."""


class NoRecord(InnercommitsError):
    """There is no such record."""

    def __init__(self, record):
        self.record = record


class TooMany(InnercommitsError):
    """A bound on how many there may be is exceeded."""

    def __init__(self, what):
        self.what = what


class BadLibrary(InnercommitsError):
    """A line of a library is wrong; -1 if its text is no string."""

    def __init__(self, line):
        self.line = line


class Endless(InnercommitsError):
    """A function can come back to itself."""

    def __init__(self, name):
        self.name = name


class Clash(InnercommitsError):
    """Two libraries define the same function."""

    def __init__(self, name):
        self.name = name


class NoFunction(InnercommitsError):
    """No such function is defined."""

    def __init__(self, name):
        self.name = name


class BadChange(InnercommitsError):
    """A change of a mode is wrong."""

    def __init__(self, index):
        self.index = index


class BadRecords(InnercommitsError):
    """A record of the library is not looked at."""

    def __init__(self, record):
        self.record = record


class BadMove(InnercommitsError):
    """A value that should be a move is none."""

    def __init__(self, thing):
        self.thing = thing


class NotNow(InnercommitsError):
    """A move is not possible at this moment."""

    def __init__(self, thing):
        self.thing = thing


class NoCall(InnercommitsError):
    """There is no such call."""

    def __init__(self, number):
        self.number = number


class Unknown(InnercommitsError):
    """A function is called and nowhere defined."""

    def __init__(self, name):
        self.name = name


class NoRow(InnercommitsError):
    """A table has no such row."""

    def __init__(self, name, case):
        self.name = name
        self.case = case


class NoFace(InnercommitsError):
    """A row of a table has no such face."""

    def __init__(self, face):
        self.face = face


class NoFate(InnercommitsError):
    """There is no such fate."""

    def __init__(self, kept):
        self.kept = kept


class Unlike(InnercommitsError):
    """Only one of two libraries defines the function."""

    def __init__(self, name):
        self.name = name


class Doomed(InnercommitsError):
    """The level is doomed; first is the word by which."""

    def __init__(self, first):
        self.first = first
        self.word = "doomed"


class Missing(InnercommitsError):
    """The mode needs a present transaction, and there is none."""

    def __init__(self, mode):
        self.mode = mode
        self.word = "missing"


class Present(InnercommitsError):
    """The mode allows no present transaction, and there is one."""

    def __init__(self, mode):
        self.mode = mode
        self.word = "present"


class Refused(InnercommitsError):
    """The commit was refused."""

    def __init__(self):
        self.word = "refused"


class Waits(InnercommitsError):
    """The write would wait for a suspended transaction."""

    def __init__(self, record):
        self.record = record
        self.word = "waits"


class Failed(InnercommitsError):
    """Any other error of a deed."""

    def __init__(self, word):
        self.word = word
