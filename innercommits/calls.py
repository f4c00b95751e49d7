"""The calls of a play, with the case and the face of each."""


class Call:
    """A call of a function; begun is the number of moves before it."""

    def __init__(self, number, name, begun, case):
        self.number = number
        self.name = name
        self.begun = begun
        self.case = case
        # The writes that belong to the call.
        self.own = []
        # None until the call has ended.
        self.face = None
        self.length = 0


def case_now(db, looked):
    """The case of a call that begins now; looked has the looked-at records, ascending."""
    state = "none"
    if db.is_open:
        state = "doomed" if db.is_doomed else "open"
    outer = tuple([record for record in looked if db.has_suspended(record)])
    held = tuple([record for record in looked if db.holds(record)])
    return (state, outer, held)


def face_now(db, looked, own, end):
    """The face of a call, to which these writes belong, if it ends now with this end."""
    held = tuple([record for record in looked if db.holds(record)])
    kept = records_with(own, "kept")
    if db.is_doomed:
        return (end, True, held, kept, ())
    pending = tuple([record for record in records_with(own, "open") if record not in kept])
    return (end, False, held, kept, pending)


def records_with(own, fate):
    """The ascending tuple of the records of those of the writes that have this fate."""
    return tuple(sorted(set([write.record for write in own if write.fate == fate])))
