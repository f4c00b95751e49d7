"""Calls that wait for themselves."""

from innercommits.errors import NoRecord
from innercommits.modes import is_word
from innercommits.tables import Table, entry_cases


class SelfWaits:
    """The records at which some call of a function by a silent caller waits for itself."""

    def __init__(self, library, name, *, strict=False):
        table = Table(library, names=[name], strict=strict, silent=True)
        ways = table.ways_to_wait(name, entry_cases([], silent=True))
        self._ways = {record: ways[record] for record in sorted(ways)}
        self.certificate = (tuple(list(self._ways.items())), table.certificate)

    def records(self):
        """The records, ascending."""
        return list(self._ways)

    def __len__(self):
        """The number of records."""
        return len(self._ways)

    def way(self, record):
        """The fewest moves after which a write of the record, any value, has waited."""
        if not is_word(record) or record not in self._ways:
            raise NoRecord(record)
        return self._ways[record]
