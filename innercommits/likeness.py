"""Libraries that are alike: whether callers can get from one whatever they can get from the other."""

from innercommits.closures import Closure
from innercommits.errors import TooMany, Unknown, Unlike
from innercommits.kinds import is_integer
from innercommits.limits import check_size
from innercommits.looker import is_silent, play_told
from innercommits.rules import united
from innercommits.shapes import is_face, is_place, is_tuple
from innercommits.tables import Table, entry_cases
from innercommits.ways import way_into

MOST_RECORDS = 2


def common_records(one, other):
    """The looked-at records of two libraries, ascending, if these can be compared."""
    names = one.functions()
    others = other.functions()
    for name in united(tuple(names), tuple(others)):
        if name not in names or name not in others:
            raise Unlike(name)
    unknown = one.unknown() + other.unknown()
    if unknown != []:
        raise Unknown(unknown[0])
    looked = united(tuple(one.records()), tuple(other.records()))
    if len(looked) > MOST_RECORDS:
        raise TooMany("records")
    check_size(one, looked)
    check_size(other, looked)
    return list(looked)


def entry_places(library, looked, silent):
    """All pairs of a function and an entry case, ascending."""
    cases = entry_cases(looked, silent=silent)
    return [(name, case) for name in library.functions() for case in cases]


class Likeness:
    """Whether two libraries are alike, with what shows it; they are parted if there are moves."""

    def __init__(self, certificate, trail):
        self.certificate = certificate
        self._trail = trail

    def __bool__(self):
        """Whether they are alike."""
        return bool(self._trail == ())

    def __len__(self):
        """The number of moves, 0 if they are alike."""
        return len(self._trail)


class Parting:
    """A face that a call of one library can have and the same call of the other one cannot."""

    def __init__(self, side, place, face, length):
        self.side = side
        self.place = place
        self.face = face
        self.length = length


def shortest_parting(tables, places):
    """A parting with as few moves as possible, None if there is none."""
    best = None
    for name, case in places:
        for side in (0, 1):
            others = {face: True for face, _ in tables[1 - side].faces(name, case)}
            before = len(way_into(case)) + 1
            for face, number in tables[side].faces(name, case):
                length = before + number
                if face not in others and (best is None or length < best.length):
                    best = Parting(side, (name, case), face, length)
    return best


def common_ways(tables, places):
    """The ways to all faces of these rows in both tables."""
    found = []
    for name, case in places:
        for face, _ in tables[0].faces(name, case):
            moves = [table.way(name, case, face) for table in tables]
            found.append(((name, case), face, moves[0], moves[1]))
    return tuple(found)


def alike(one, other, *, strict=False, other_strict=False, silent=False):
    """Whether the libraries are alike: a `Likeness`."""
    looked = common_records(one, other)
    tables = (
        Table(one, records=looked, strict=strict, silent=silent),
        Table(other, records=looked, strict=other_strict, silent=silent),
    )
    places = entry_places(one, looked, silent)
    parting = shortest_parting(tables, places)
    rows = [table.certificate for table in tables]
    if parting is None:
        return Likeness(("alike", rows[0], rows[1], common_ways(tables, places)), ())
    name, case = parting.place
    moves = tables[parting.side].way(name, case, parting.face)
    return Likeness(("parted", parting.side, moves, rows[1 - parting.side]), moves)


class Side:
    """One of two libraries that are compared, with its database."""

    def __init__(self, library, looked, strict, silent):
        self._library = library
        self._looked = looked
        self._strict = strict
        self._silent = silent

    def closure(self, rows):
        """The rows, any value, with what the rules lead to."""
        return Closure(self._library, self._looked, rows, strict=self._strict, silent=self._silent)

    def ended_call(self, moves):
        """The function, the case and the face of the only call, which has ended with the last move.

        None if the moves, any value, are not such a play.
        """
        play = play_told(self._library, moves, strict=self._strict, records=self._looked)
        if play is None or (self._silent and not is_silent(play)):
            return None
        names = play.call_names()
        if len(names) != 1 or not play.is_ended(0):
            return None
        begun = list(moves).index(f"call {names[0]}")
        if begun + 1 + play.length_of(0) != len(moves):
            return None
        return ((names[0], play.case_of(0)), play.face_of(0))


def is_likeness(one, other, thing, *, strict=False, other_strict=False, silent=False):
    """Whether thing, any value, is a certificate that the libraries are alike, or that they are not."""
    looked = common_records(one, other)
    sides = (Side(one, looked, strict, silent), Side(other, looked, other_strict, silent))
    if not is_tuple(thing, 4) or not isinstance(thing[0], str):
        return False
    if thing[0] == "alike":
        return _shows_alike(sides, thing, entry_places(one, looked, silent))
    return thing[0] == "parted" and _shows_parted(sides, thing)


def _shows_parted(sides, thing):
    """Whether a call on one side has a face that it does not have on the other one."""
    _, side, moves, rows = thing
    if not is_integer(side) or side not in (0, 1):
        return False
    told = sides[side].ended_call(moves)
    if told is None:
        return False
    place, face = told
    closure = sides[1 - side].closure(rows)
    return closure.has_rows([place[0]], [place[1]]) and face not in closure.rows[place]


def _shows_alike(sides, thing, places):
    """Whether both sides have the same faces at these places, and the ways are to all of them."""
    faces = _common_faces(sides[0].closure(thing[1]), sides[1].closure(thing[2]), places)
    if faces is None or not isinstance(thing[3], tuple):
        return False
    seen = {}
    for way in thing[3]:
        if not is_tuple(way, 4) or not is_place(way[0]) or not is_face(way[1]):
            return False
        told = (way[0], way[1])
        if told not in faces:
            return False
        seen[told] = True
        if sides[0].ended_call(way[2]) != told or sides[1].ended_call(way[3]) != told:
            return False
    return len(seen) == len(faces)


def _common_faces(closure, other, places):
    """The places with their faces as keys, if these are the same in both closures; None if not."""
    found = {}
    for place in places:
        name, case = place
        if not closure.has_rows([name], [case]) or not other.has_rows([name], [case]):
            return None
        faces = closure.rows[place]
        if len(faces) != len(other.rows[place]):
            return None
        for face in faces:
            if face not in other.rows[place]:
                return None
            found[(place, face)] = True
    return found
