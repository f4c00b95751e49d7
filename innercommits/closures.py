"""Whether rows that somebody tells are a closed table."""

from innercommits.paths import waited_records
from innercommits.search import Search
from innercommits.shapes import is_case, is_face, is_number, is_place, is_tuple


def are_apart(some, others):
    """Whether two sets of records have none in common."""
    return not any([record in others for record in some])


def is_case_of(looked, thing):
    """Whether thing, any value, is a case with which a row can begin."""
    if not is_case(thing):
        return False
    state, outer, held = thing
    if not all([record in looked for record in outer + held]):
        return False
    return are_apart(outer, held) and (state != "none" or held == ())


def is_face_of(ends, looked, case, thing):
    """Whether thing, any value, is a face of the case; ends has all ends as keys."""
    if not is_face(thing):
        return False
    state, outer, before = case
    end, doomed, held, kept, pending = thing
    if end not in ends or not all([record in looked for record in held + kept]):
        return False
    if not all([record in held for record in before]) or not are_apart(outer, held):
        return False
    if not are_apart(kept, pending) or not all([record in held for record in pending]):
        return False
    if doomed and pending != ():
        return False
    if state == "none":
        return not doomed and held == ()
    return state == "open" or (doomed and held == before)


def faces_told(ends, looked, case, thing):
    """The faces of a row with their numbers; None if thing, any value, does not tell them so."""
    if not isinstance(thing, tuple):
        return None
    found = {}
    for pair in thing:
        if not is_tuple(pair, 2) or not is_number(pair[1]):
            return None
        if not is_face_of(ends, looked, case, pair[0]) or pair[0] in found:
            return None
        found[pair[0]] = pair[1]
    return found


def rows_told(library, looked, thing):
    """From the functions and cases of rows to their faces with numbers; None if they are none of 33."""
    if not isinstance(thing, tuple):
        return None
    ends = {end: True for end in ["", *library.errors(), "?"]}
    found = {}
    for row in thing:
        if not is_tuple(row, 2) or not is_place(row[0]) or row[0] in found:
            return None
        name, case = row[0]
        if name not in library or not is_case_of(looked, case):
            return None
        faces = faces_told(ends, looked, case, row[1])
        if faces is None:
            return None
        found[row[0]] = faces
    return found


class Closure:
    """Rows that somebody tells, any value, and what the rules lead to from them.

    rows is None if they are no closed table.
    """

    def __init__(self, library, looked, thing, *, strict, silent):
        self.rows = rows_told(library, looked, thing)
        self.waited = []
        if self.rows is not None:
            self._execute(Search(library, looked, strict=strict, silent=silent, given=self.rows))

    def _execute(self, search):
        """Executes the body of each row, and takes down where writes wait."""
        places = list(self.rows)
        for name, case in places:
            search.row_of(name, case)
        search.run()
        self.waited = waited_records(search)
        if search.is_lacking or not all([self._has_all(search, place) for place in places]):
            self.rows = None

    def _has_all(self, search, place):
        """Whether the row has all the faces to which the rules lead, with no greater numbers."""
        faces = {search.codes.face_code(face): number for face, number in self.rows[place].items()}
        found = search.row_of(place[0], place[1]).found
        return all([face in faces and faces[face] <= found[face] for face in found])

    def has_rows(self, names, cases):
        """Whether the rows are a closed table with these functions in all these cases."""
        if self.rows is None:
            return False
        return all([(name, case) in self.rows for name in names for case in cases])
