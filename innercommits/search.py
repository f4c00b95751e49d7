"""Finds which faces are possible, and with how few moves.

A fact is that the execution of a part from a case can be at a key, with a
number of moves behind its beginning. Facts with few moves are looked at first.
"""

from heapq import heappop, heappush

from innercommits.codes import CODE, DOOMED, FREE, HELD, OUTER, WIDTH, Codes
from innercommits.layout import Layout

# Of ways with more moves nothing is specified.
LONGEST = 2000


class Row:
    """A part that is executed from a case, with all that is known of this."""

    def __init__(self, number, part, case):
        self.number = number
        self.part = part
        self.case = case
        self.place = case & (OUTER | FREE)
        self.outer = (case & OUTER) >> 10
        self.free = case & FREE > 0
        # The least number for each key, and the key from which one came there.
        self.best = {}
        self.came = {}
        # The rows of the inner parts, by the keys at which they begin.
        self.parts = {}
        # Pairs of a row, in which this one is that of an inner part, and the key.
        self.askers = []
        # The least number for each face.
        self.found = {}


class Search:
    """The rows of the parts of a library that are asked for.

    If given is a dict from functions and cases to faces and their numbers, then the
    calls of functions of the library have just these faces.
    """

    def __init__(self, library, looked, *, strict, silent, given=None):
        self.codes = Codes(looked, library.errors())
        self.layout = Layout(library, self.codes, looked, strict=strict, silent=silent)
        self.rows = []
        # Whether a row that is asked for is not given.
        self.is_lacking = False
        self._given = None if given is None else self._given_rows(given)
        self._places = {}
        # The numbers for which there are facts, as a heap, and the facts of each.
        self._heap = []
        self._waiting = {}

    def _given_rows(self, given):
        """The given rows by the numbers of parts and cases."""
        rows = {}
        for name, case in given:
            place = (self.layout.numbers[name], self.codes.case_code(case))
            row = Row(-1, place[0], place[1])
            faces = given[(name, case)]
            row.found = {self.codes.face_code(face): faces[face] for face in faces}
            rows[place] = row
        return rows

    def row_of(self, name, case):
        """The row of the function in this case, which is asked for if it was not before."""
        return self._row(self.layout.numbers[name], self.codes.case_code(case))

    def _row(self, part, case):
        """The row of a part."""
        place = (part, case)
        if place not in self._places:
            row = Row(len(self.rows), part, case)
            self._places[place] = row
            self.rows.append(row)
            self._add(row, self.layout.starts[part] | case & (HELD | DOOMED), 0, -1)
        return self._places[place]

    def _inner_row(self, part, case):
        """The row of an inner part."""
        if self._given is None or part >= len(self.layout.numbers):
            return self._row(part, case)
        place = (part, case)
        if place not in self._given:
            self.is_lacking = True
            self._given[place] = Row(-1, part, case)
        return self._given[place]

    def run(self):
        """Finds all that is possible in the rows that are asked for."""
        while self._heap:
            number = self._heap[0]
            facts = self._waiting[number]
            if facts:
                row, key = facts.pop()
                # Otherwise fewer moves have been found since.
                if row.best[key] == number:
                    self._look_at(row, key, number)
            else:
                heappop(self._heap)
                del self._waiting[number]

    def _add(self, row, key, number, came):
        """Adds a fact unless it is known with as few moves."""
        known = row.best.get(key)
        if known is not None and known <= number:
            return
        row.best[key] = number
        row.came[key] = came
        if number not in self._waiting:
            self._waiting[number] = []
            heappush(self._heap, number)
        self._waiting[number].append((row, key))

    def _look_at(self, row, key, number):
        """Adds what follows from a fact."""
        if key <= CODE:
            row.found[key] = number
            for asker, at in list(row.askers):
                self._land(asker, at, key, number)
            return
        point = self.layout.points[key >> WIDTH]
        if key not in row.parts:
            inner = point.inner(row, key & CODE)
            if inner is None:
                for target, move in point.steps(row, key & CODE):
                    self._add(row, target, number + 1 if move else number, key)
                return
            row.parts[key] = self._inner_row(inner[0], inner[1])
            row.parts[key].askers.append((row, key))
        for face, more in list(row.parts[key].found.items()):
            self._land(row, key, face, more)

    def _land(self, row, key, face, more):
        """Adds what follows where the inner part at the key has ended with a face."""
        best = row.best
        number = best[key] + more
        point = self.layout.points[key >> WIDTH]
        for target, move in point.landings(row, key & CODE, face):
            far = number + 1 if move else number
            # Looked at here already, as most of what follows is known by then.
            if target not in best or far < best[target]:
                self._add(row, target, far, key)

    def function_rows(self):
        """The rows of functions."""
        return [row for row in self.rows if row.part < len(self.layout.numbers)]

    def name_of(self, row):
        """The name of the function of which this is a row."""
        return self.layout.names[row.part]

    def moves_to(self, row, key):
        """The moves from the beginning of a row to a key."""
        found = []
        waiting = [(row, key)]
        while waiting and len(found) <= LONGEST:
            row, key = waiting.pop()
            came = row.came[key]
            if came >= 0:
                move, face = self._last_step(row, came, key)
                if move:
                    found.append(move)
                waiting.append((row, came))
                if face is not None:
                    waiting.append((row.parts[came], face))
        found.reverse()
        return found

    def _last_step(self, row, came, key):
        """The move from one key to the next, and the face of the inner part, None if none is."""
        more = row.best[key] - row.best[came]
        point = self.layout.points[came >> WIDTH]
        if came not in row.parts:
            for target, move in point.steps(row, came & CODE):
                if target == key and more == (1 if move else 0):
                    return (move, None)
            return ("", None)
        for face, number in list(row.parts[came].found.items()):
            for target, move in point.landings(row, came & CODE, face):
                if target == key and more == number + (1 if move else 0):
                    return (move, face)
        return ("", None)
