"""Tables: with which faces the calls of functions can end, and with how few moves."""

from innercommits.errors import NoFace, NoRow
from innercommits.limits import table_records
from innercommits.paths import first_waits
from innercommits.rules import subsets
from innercommits.search import Search
from innercommits.shapes import is_face, is_place
from innercommits.ways import way_into


def entry_cases(records, *, silent=False):
    """The entry cases for the looked-at records, ascending."""
    names = [] if silent else sorted(records)
    found = []
    for outer in subsets(names):
        found.append(("none", outer, ()))
        for held in subsets([name for name in names if name not in outer]):
            found.append(("open", outer, held))
            found.append(("doomed", outer, held))
    return sorted(found)


class Table:
    """The rows of some functions in the entry cases, and all rows that these ask for."""

    def __init__(self, library, *, names=None, records=None, strict=False, silent=False):
        asked = library.functions() if names is None else list(names)
        looked = table_records(library, asked, records)
        self._search = Search(library, looked, strict=strict, silent=silent)
        for name in asked:
            for case in entry_cases(looked, silent=silent):
                self._search.row_of(name, case)
        self._search.run()
        self._faces = self._told_faces()
        rows = []
        for place, faces in self._faces.items():
            rows.append((place, tuple(sorted(faces.items()))))
        self.certificate = tuple(sorted(rows))

    def _told_faces(self):
        """From each function and case to its faces, and from these to their numbers."""
        codes = self._search.codes
        told = {}
        found = {}
        for row in self._search.function_rows():
            faces = {}
            for code in row.found:
                if code not in told:
                    told[code] = codes.face_told(code)
                faces[told[code]] = row.found[code]
            found[(self._search.name_of(row), codes.case_told(row.case))] = faces
        return found

    def __len__(self):
        """The number of rows."""
        return len(self._faces)

    def __contains__(self, x):
        """Whether x, any value, is a function and a case of which there is a row."""
        return is_place(x) and x in self._faces

    def _row(self, name, case):
        """The faces of a row, with their numbers."""
        if not is_place((name, case)) or (name, case) not in self._faces:
            raise NoRow(name, case)
        return self._faces[(name, case)]

    def faces(self, name, case):
        """The pairs of a face and its number of the row, ascending."""
        found = self._row(name, case)
        return sorted(found.items())

    def way(self, name, case, face):
        """The moves of a play, as few as possible, in which a call ends with the face."""
        faces = self._row(name, case)
        if not is_face(face) or face not in faces:
            raise NoFace(face)
        row = self._search.row_of(name, case)
        moves = self._search.moves_to(row, self._search.codes.face_code(face))
        return way_into(case) + (f"call {name}",) + tuple(moves)

    def ways_to_wait(self, name, cases):
        """From each record at which the function waits from these cases to the fewest moves till then."""
        starts = {}
        for case in cases:
            starts[self._search.row_of(name, case)] = way_into(case) + (f"call {name}",)
        return first_waits(self._search, starts)
