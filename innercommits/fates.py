"""Fates: which records can be kept of a call in the end, and whether a rule always allows them."""

from innercommits.errors import NoFate
from innercommits.shapes import is_set
from innercommits.tables import Table, entry_cases
from innercommits.ways import way_into, way_out


def ends_of(face):
    """What can be kept in the end of a call with this face: pairs of a set and whether all is kept."""
    _, _, _, kept, pending = face
    if pending == ():
        return [(kept, False)]
    return [(kept, False), (tuple(sorted(kept + pending)), True)]


class Ending:
    """A play with one call, from the case of this to the end of the play."""

    def __init__(self, case, face, number, keeps):
        self.case = case
        self.face = face
        self.keeps = keeps
        self.length = len(way_into(case)) + 1 + number + len(way_out(case, keeps))


def shortest_endings(table, name, cases):
    """From each fate of the function to an ending with it that has as few moves as possible."""
    found = {}
    for case in cases:
        for face, number in table.faces(name, case):
            for kept, keeps in ends_of(face):
                ending = Ending(case, face, number, keeps)
                if kept not in found or ending.length < found[kept].length:
                    found[kept] = ending
    return found


def moves_of(table, name, ending):
    """The moves of an ending."""
    return table.way(name, ending.case, ending.face) + way_out(ending.case, ending.keeps)


class Fates:
    """The fates of a function."""

    def __init__(self, library, name, *, strict=False, silent=False):
        table = Table(library, names=[name], strict=strict, silent=silent)
        endings = shortest_endings(table, name, entry_cases(library.records(), silent=silent))
        self._plays = {kept: moves_of(table, name, endings[kept]) for kept in sorted(endings)}

    def __iter__(self):
        raise TypeError("fates are not iterated over")

    def sets(self):
        """The fates, ascending."""
        return list(self._plays)

    def __len__(self):
        """The number of fates."""
        return len(self._plays)

    def __contains__(self, x):
        """Whether x, any value, is a fate."""
        return is_set(x) and x in self._plays

    def __getitem__(self, at):
        """The moves of a shortest play with the fate at, any value."""
        if not is_set(at) or at not in self._plays:
            raise NoFate(at)
        return self._plays[at]


class Verdict:
    """Whether a rule holds for a function, with what shows it; a play breaks it if there are moves."""

    def __init__(self, certificate, trail):
        self.certificate = certificate
        self._trail = trail

    def __bool__(self):
        """Whether the rule holds."""
        return bool(self._trail == ())

    def __len__(self):
        """The number of moves, 0 if the rule holds."""
        return len(self._trail)


def judge(library, name, rule, *, strict=False, silent=False):
    """Whether the rule holds for the function: a `Verdict`."""
    table = Table(library, names=[name], strict=strict, silent=silent)
    endings = shortest_endings(table, name, entry_cases(library.records(), silent=silent))
    worst = None
    for kept in sorted(endings):
        if not rule(kept) and (worst is None or endings[kept].length < worst.length):
            worst = endings[kept]
    if worst is None:
        return Verdict(("holds", table.certificate), ())
    moves = moves_of(table, name, worst)
    return Verdict(("breaks", moves), moves)
