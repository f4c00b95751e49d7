"""Where writes wait in the rows of a search."""

from heapq import heappop, heappush

from innercommits.codes import CODE, WIDTH


def waits_in(search, row):
    """Pairs of a key in the row and the bit of the record at which a write waits there."""
    found = []
    for key in row.best:
        if key > CODE:
            bit = search.layout.points[key >> WIDTH].waits_for(row, key & CODE)
            if bit:
                found.append((key, bit))
    return found


def waited_records(search):
    """The records at which writes wait in any row, ascending."""
    bits = 0
    for row in search.rows:
        for _, bit in waits_in(search, row):
            bits = bits | bit
    return search.codes.set_of(bits)


class Path:
    """The fewest moves from some rows to all others; starts has the moves before each of these.

    The rows are told by their numbers, as a heap holds them.
    """

    def __init__(self, search, starts):
        self._search = search
        self._starts = starts
        # The number of moves to each row, and the row and the key from which one came there.
        self.far = {}
        self._came = {}
        self._heap = []
        for row, moves in starts.items():
            self._add(row.number, len(moves), None)
        self._go()

    def _add(self, number, far, came):
        """Adds that there are so many moves to a row, unless fewer are known."""
        if number not in self.far or far < self.far[number]:
            self.far[number] = far
            self._came[number] = came
            heappush(self._heap, (far, number))

    def _go(self):
        """Finds the fewest moves to all rows."""
        while self._heap:
            far, number = heappop(self._heap)
            if far == self.far[number]:
                row = self._search.rows[number]
                for key, inner in row.parts.items():
                    self._add(inner.number, far + row.best[key], (row, key))

    def moves_to(self, row, key):
        """The moves to a key in a row."""
        legs = [(row, key)]
        came = self._came[row.number]
        while came is not None:
            legs.append(came)
            row = came[0]
            came = self._came[row.number]
        found = self._starts[row]
        for place, at in reversed(list(legs)):
            found = found + tuple(self._search.moves_to(place, at))
        return found


def first_waits(search, starts):
    """From each record at which a write waits to the fewest moves till then."""
    path = Path(search, starts)
    best = {}
    for number in path.far:
        row = search.rows[number]
        for key, bit in waits_in(search, row):
            many = path.far[number] + row.best[key]
            if bit not in best or many < best[bit][0]:
                best[bit] = (many, row, key)
    found = {}
    for bit in sorted(best):
        _, row, key = best[bit]
        found[search.codes.set_of(bit)[0]] = path.moves_to(row, key)
    return found
