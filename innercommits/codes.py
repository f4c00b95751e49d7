"""Situations, faces and cases as numbers, as tables have very many of them.

Each of at most three looked-at records has a bit. From the lowest bit on, a
situation has three bits for what is pending, three for what is kept, three for
what is held, and one that tells whether the top level is doomed. A face has the
number of its end above these bits; a case has there what suspended transactions
hold, and a bit that is set if there is no present transaction.
"""

from innercommits.rules import subsets

PENDING = 7
KEPT = 56
HELD = 448
DOOMED = 512
SITUATION = 1023
END = 15360
OUTER = 7168
FREE = 8192
# A face has at most so many bits.
WIDTH = 14
CODE = 16383


def kept_of(code):
    """The bits of the records that are kept."""
    return (code & KEPT) >> 3


def held_of(code):
    """The bits of the records that are held."""
    return (code & HELD) >> 6


def with_kept(code, bits):
    """The code once these records have come into kept."""
    kept = kept_of(code) | bits
    return code & ~(KEPT | PENDING) | kept << 3 | code & PENDING & ~kept


def with_pending(code, bits):
    """The code once these records have come into held and pending."""
    return code | bits << 6 | bits & ~kept_of(code)


def with_doom(code):
    """The code with a doomed top level."""
    return code & ~PENDING | DOOMED


def with_part(code, face):
    """The face of what began with the code, once a part of it has ended with the face."""
    both = code | face
    kept = both & KEPT
    shown = face & (END | DOOMED | HELD) | kept
    if face & DOOMED:
        return shown
    return shown | both & PENDING & ~(kept >> 3)


class Codes:
    """The numbers for some looked-at records, ascending, and the errors of a library."""

    def __init__(self, looked, errors):
        self._ends = ["", *errors, "?"]
        # The bits of each end within a face.
        self.bits = {end: number << 10 for number, end in enumerate(self._ends)}
        self._sets = subsets(looked)
        self._masks = {some: mask for mask, some in enumerate(self._sets)}

    def bit(self, record):
        """The bit of a looked-at record."""
        return self._masks[(record,)]

    def set_of(self, bits):
        """The records with these bits, an ascending tuple."""
        return self._sets[bits]

    def case_code(self, case):
        """The number of a case."""
        state, outer, held = case
        code = self._masks[outer] << 10 | self._masks[held] << 6
        if state == "none":
            return code | FREE
        return code | DOOMED if state == "doomed" else code

    def case_told(self, code):
        """The case with this number."""
        state = "doomed" if code & DOOMED else "open"
        if code & FREE:
            state = "none"
        return (state, self._sets[(code & OUTER) >> 10], self._sets[held_of(code)])

    def face_code(self, face):
        """The number of a face."""
        end, doomed, held, kept, pending = face
        code = self._masks[held] << 6 | self._masks[kept] << 3 | self._masks[pending]
        return self.bits[end] | code | (DOOMED if doomed else 0)

    def face_told(self, code):
        """The face with this number."""
        return (
            self._ends[code >> 10],
            code & DOOMED > 0,
            self._sets[held_of(code)],
            self._sets[kept_of(code)],
            self._sets[code & PENDING],
        )
