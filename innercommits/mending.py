"""Mends: which modes to change, so that wishes come true."""

from innercommits.codes import PENDING, kept_of
from innercommits.errors import TooMany
from innercommits.limits import check_names, check_size
from innercommits.modes import Mode
from innercommits.points import EFFECTS
from innercommits.search import Search
from innercommits.tables import entry_cases

MOST_BLOCKS = 3


def many_records(case):
    """How many records are held in a case."""
    _, outer, held = case
    return len(outer) + len(held)


def have_effects(modes, effects):
    """Whether entering blocks of these modes does this; effects has numbers of blocks and places as keys."""
    return all([EFFECTS[modes[number]][at] == effect for (number, at), effect in effects.items()])


class Granting:
    """What is asked of a library with these wishes, with any modes."""

    def __init__(self, wishes, looked, strict, silent):
        self._wishes = wishes
        self._looked = looked
        self._strict = strict
        self._silent = silent
        # Cases with few records first, as a rule is often seen to be broken in them.
        self._cases = sorted(entry_cases(looked, silent=silent), key=many_records)
        # Pairs of what entering blocks was found to do, and whether all wishes came true
        # then. Other modes with which entering blocks does the same need no search.
        self._known = []

    def grants(self, library, change):
        """Whether all wishes come true for the library with this change."""
        modes = library.blocks()
        for number, mode in change:
            modes[number] = mode
        for effects, told in self._known:
            if have_effects(modes, effects):
                return told
        search = Search(library.changed(change), self._looked, strict=self._strict, silent=self._silent)
        told = self._are_granted(search)
        self._known.append((search.layout.effects_seen(), told))
        return told

    def _are_granted(self, search):
        """Whether all wishes come true."""
        for wish in self._wishes:
            if not self._is_granted(search, wish):
                return False
        return True

    def _is_granted(self, search, wish):
        """Whether one wish comes true."""
        name, rule, wanted = wish
        seen = {}
        for case in self._cases:
            row = search.row_of(name, case)
            search.run()
            for kept in fates_in(search, row):
                if kept not in seen and not rule(kept):
                    return False
                seen[kept] = True
        return all([kept in seen for kept in wanted])


def fates_in(search, row):
    """What can be kept in the end of calls with the faces of a row."""
    bits = {}
    for face in row.found:
        bits[kept_of(face)] = True
        bits[kept_of(face) | face & PENDING] = True
    return [search.codes.set_of(some) for some in bits]


def check_wishes(library, wishes):
    """Raises an error for the first wish whose function the library does not define."""
    check_names(library, [name for name, _, _ in wishes])


def come_true(library, wishes, *, strict=False, silent=False):
    """Whether all wishes come true for the library as it is."""
    check_wishes(library, wishes)
    looked = tuple(library.records())
    check_size(library, looked)
    return Granting(wishes, looked, strict, silent).grants(library, ())


def all_changes(modes):
    """All changes of blocks with these modes to other modes, the smaller ones first."""
    found = [()]
    for number, before in enumerate(modes):
        others = [mode for mode in Mode.ALL if mode != before]
        found = found + [change + ((number, mode),) for change in found for mode in others]
    return sorted(found, key=len)


def mends(library, wishes, *, strict=False, silent=False):
    """All mends with the fewest blocks, ascending."""
    check_wishes(library, wishes)
    if len(library.blocks()) > MOST_BLOCKS:
        raise TooMany("blocks")
    looked = tuple(library.records())
    check_size(library, looked)
    granting = Granting(wishes, looked, strict, silent)
    found = []
    for change in all_changes(library.blocks()):
        if found != [] and len(change) > len(found[0]):
            return sorted(found)
        if granting.grants(library, change):
            found.append(change)
    return sorted(found)
