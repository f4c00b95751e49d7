"""What several tests use: values of all kinds, and looking at a whole database."""

from innercommits.database import Database
from innercommits.errors import InnercommitsError
from innercommits.texts import Library

# Values of all kinds that are no words.
NO_WORDS = [
    "", "abcdefghi", "A", "aB", "a b", " a", "a ", "a\n", "\na", "a1", "1", "_", "a_b", "-",
    "a-b", "`", "{", "\u00e9", "\u0430", "\u00aa", "a" * 3000,
    None, True, False, 0, 1, -1, 10 ** 29, (), ("a",), [], ["a"], [["a"], ("b", None)],
]


def snapshot(db):
    """All that a database tells without being asked for one record."""
    return (
        db.is_open, db.is_doomed, db.reason, db.levels, db.depth,
        tuple(db.held_records()), tuple(db.outer_records()),
        tuple(db.kept_values().items()), tuple(db.fates()),
        tuple((record, db[record]) for record in ("a", "b", "c") if record in db),
    )


def standing(db):
    """The present transaction as the properties tell it."""
    return (db.is_open, db.is_doomed, db.reason, db.levels, db.depth)


def fates_of(db):
    """The fates alone, in the order of the writes."""
    return [fate for _, _, fate in db.fates()]


def free():
    """A database without a present transaction."""
    return Database()


def within_one():
    """One with a present transaction that holds x."""
    db = Database()
    db.enter("join")
    db["x"] = 1
    return db


def doomed():
    """One whose present transaction is doomed by late."""
    db = within_one()
    db.doom("late")
    return db


def levelled():
    """One with a second level."""
    db = within_one()
    db.enter("inner")
    return db


def suspended():
    """One without a present transaction, whose suspended one holds x."""
    db = within_one()
    db.enter("outside")
    return db


def parted():
    """One whose present transaction is empty and whose suspended one holds x."""
    db = within_one()
    db.enter("apart")
    return db


STATES = [free, within_one, doomed, levelled, suspended, parted]


def library(*lines):
    """The library of a function f with these lines, each without its first two spaces."""
    return Library("\n".join(["function f", *["  " + line for line in lines]]))


def told_error(deed, *args):
    """The name of the class of the error that the deed raises, and its fields but `word`."""
    try:
        deed(*args)
    except InnercommitsError as error:
        name = type(error).__name__
        return (name, *[field for key, field in vars(error).items() if key != "word" or name == "BadWord"])
    return None


def play_told(play):
    """All that a play tells."""
    calls = []
    for number, name in enumerate(play.call_names()):
        ended = play.is_ended(number)
        calls.append((name, play.case_of(number), play.kept_by(number),
                      play.face_of(number) if ended else None, play.length_of(number) if ended else None))
    return (play.moves, play.asked, play.is_over, play.depth, calls, play.kept_by(None),
            list(play.writes()), list(play.waits()))
