"""What is too much for a table."""

from innercommits.errors import NoFunction, TooMany
from innercommits.plays import looked_at

MOST_RECORDS = 3
MOST_STATEMENTS = 30


def check_names(library, names):
    """Raises an error for the first of the names that the library does not define."""
    for name in names:
        if name not in library:
            raise NoFunction(name)


def check_size(library, looked):
    """Raises an error if a table would be too large."""
    if len(looked) > MOST_RECORDS:
        raise TooMany("records")
    if len(library) > MOST_STATEMENTS:
        raise TooMany("statements")


def table_records(library, names, records):
    """The looked-at records of a table, ascending, if there can be one of these functions."""
    check_names(library, names)
    looked = looked_at(library, records)
    check_size(library, looked)
    return looked
