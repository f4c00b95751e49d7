"""Whether values of any kind are certificates."""

from innercommits.closures import Closure
from innercommits.errors import InnercommitsError
from innercommits.fates import ends_of
from innercommits.limits import table_records
from innercommits.modes import is_word
from innercommits.plays import Play
from innercommits.shapes import is_tuple
from innercommits.tables import entry_cases


def play_told(library, moves, *, strict, records=None):
    """The play with these moves, any value; None if they are no tuple, or not possible."""
    if not isinstance(moves, tuple):
        return None
    try:
        return Play.of(library, moves, strict=strict, records=records)
    except InnercommitsError:
        return None


def is_silent(play):
    """Whether the caller writes nothing, and calls the library once."""
    if any([move.startswith("write ") for move in play.moves]):
        return False
    return len(play.call_names()) == 1


def is_closed(library, thing, *, names=None, records=None, strict=False, silent=False):
    """Whether thing, any value, is a closed table with the functions in all entry cases."""
    asked = library.functions() if names is None else list(names)
    looked = table_records(library, asked, records)
    closure = Closure(library, looked, thing, strict=strict, silent=silent)
    return closure.has_rows(asked, entry_cases(looked, silent=silent))


def is_verdict(library, name, rule, thing, *, strict=False, silent=False):
    """Whether thing, any value, is a certificate that the rule holds, or that it does not."""
    looked = table_records(library, [name], None)
    if not is_tuple(thing, 2) or not isinstance(thing[0], str):
        return False
    if thing[0] == "holds":
        closure = Closure(library, looked, thing[1], strict=strict, silent=silent)
        return _shows(closure, name, rule, entry_cases(looked, silent=silent))
    if thing[0] != "breaks":
        return False
    play = play_told(library, thing[1], strict=strict)
    return play is not None and _breaks(play, name, rule, silent)


def _shows(closure, name, rule, cases):
    """Whether the rows show that the rule holds for the function."""
    if not closure.has_rows([name], cases):
        return False
    for case in cases:
        for face in closure.rows[(name, case)]:
            if not all([rule(kept) for kept, _ in ends_of(face)]):
                return False
    return True


def _breaks(play, name, rule, silent):
    """Whether the rule does not allow what is kept of some call of the function in the play."""
    if not play.is_over or (silent and not is_silent(play)):
        return False
    kept = [play.kept_by(number) for number, other in enumerate(play.call_names()) if other == name]
    return not all([rule(some) for some in kept])


def is_waiting(library, name, thing, *, strict=False):
    """Whether thing, any value, tells at which records a call of the function waits for itself."""
    looked = table_records(library, [name], None)
    if not is_tuple(thing, 2) or not isinstance(thing[0], tuple):
        return False
    pairs, rows = thing
    if not all([is_tuple(pair, 2) and is_word(pair[0]) for pair in pairs]):
        return False
    told = [record for record, _ in pairs]
    if told != sorted(set(told)):
        return False
    if not all([_waits(library, name, record, moves, strict) for record, moves in pairs]):
        return False
    closure = Closure(library, looked, rows, strict=strict, silent=True)
    if not closure.has_rows([name], entry_cases([], silent=True)):
        return False
    return all([record in told for record in closure.waited])


def _waits(library, name, record, moves, strict):
    """Whether a call of the function by a silent caller has waited at the record after the moves."""
    play = play_told(library, moves, strict=strict)
    if play is None or not is_silent(play) or play.call_names() != [name]:
        return False
    waited = list(play.waits())
    return (0, record) in waited
