"""The points of a library at which its execution can be.

A situation at a point has a key: the number of the point, shifted above the bits
of a face, and the code of the situation, at some points with an end. `after` and
`fail` are the keys, without such codes, of the points to which one comes well
and by an error. A row (see search.py) tells the points which records suspended
transactions hold (`outer`) and whether there is no present transaction
(`free`). An edge is a pair of a key and the move that leads to it, "" if none does.
"""

from innercommits.codes import DOOMED, END, FREE, HELD, PENDING, SITUATION
from innercommits.codes import held_of, kept_of, with_doom, with_kept, with_part, with_pending

# What entering a block does without a present transaction, in one that is not
# doomed, and in a doomed one: an error, or how the body is executed.
EFFECTS = {
    "join": ("opens", "joins", "joins"),
    "inner": ("opens", "adds", "doomed"),
    "apart": ("opens", "opens", "opens"),
    "must": ("missing", "joins", "joins"),
    "either": ("joins", "joins", "joins"),
    "never": ("joins", "present", "present"),
    "outside": ("joins", "frees", "frees"),
    "alone": ("opens", "present", "present"),
}
# Those by which the body begins in a situation of its own.
PARTED = ("opens", "adds", "frees")


def top_doom(row, code):
    """The code after a top doom."""
    if row.free or code & DOOMED:
        return code
    return with_doom(code)


def case_here(row, code):
    """The code of the case of what begins here."""
    return row.place | code & (HELD | DOOMED)


class Point:
    """A point from which nothing follows; the kinds of points have what follows from them."""

    def __init__(self, after, fail):
        self.after = after
        self.fail = fail

    def onward(self, code):
        """The key to which one comes with a code that has an end."""
        return (self.fail if code & END else self.after) | code

    def inner(self, row, code):
        """The part that is executed here, its number and the code of its case, or None."""
        return None

    def steps(self, row, code):
        """The edges from here where there is no inner part."""
        return []

    def landings(self, row, code, face):
        """The edges from here once the inner part has ended with the face."""
        return []

    def waits_for(self, row, code):
        """The bit of the record at which a write waits here, or 0."""
        return 0


class RaisePoint(Point):
    """`raise`; bits are those of the error."""

    def __init__(self, fail, bits):
        Point.__init__(self, fail, fail)
        self._bits = bits

    def steps(self, row, code):
        """Ends by the error."""
        return [(self.fail | self._bits | code, "")]


class DoomPoint(Point):
    """`doom`."""

    def steps(self, row, code):
        """Dooms the top level."""
        return [(self.after | top_doom(row, code), "")]


class WritePoint(Point):
    """`write`; bit is that of the record, and bits has those of each error."""

    def __init__(self, after, fail, bit, bits, strict):
        Point.__init__(self, after, fail)
        self._bit = bit
        self._bits = bits
        self._strict = strict

    def steps(self, row, code):
        """Writes, or is an error."""
        if code & DOOMED:
            return [(self.fail | self._bits["doomed"] | code, "")]
        failed = self.fail | (top_doom(row, code) if self._strict else code)
        if row.outer & self._bit:
            return [(failed | self._bits["waits"], "")]
        made = with_kept(code, self._bit) if row.free else with_pending(code, self._bit)
        return [(self.after | made, "yes"), (failed | self._bits["refused"], "no")]

    def waits_for(self, row, code):
        """The bit of the record, if the write is the error `waits`."""
        return 0 if code & DOOMED else row.outer & self._bit


class ChoicePoint(Point):
    """`maybe` and `repeat`; start is the key of the body."""

    def __init__(self, after, start):
        Point.__init__(self, after, after)
        self._start = start

    def steps(self, row, code):
        """Executes the body or not."""
        return [(self.after | code, "no"), (self._start | code, "yes")]


class TurnPoint(Point):
    """`call` of an unknown function; here is the key of the point itself.

    errors are pairs of bits and a move, and so are the records that the caller
    can write, one after another, of which a silent one has none.
    """

    def __init__(self, after, fail, here, errors, records):
        Point.__init__(self, after, fail)
        self._here = here
        self._ends = errors
        self._writable = records

    def steps(self, row, code):
        """Ends, or goes on with a write or a doom of the caller's."""
        found = [(self.after | code, "return")]
        for bits, move in self._ends:
            found.append((self.fail | bits | code, move))
        if row.free or code & DOOMED:
            return found
        taken = row.outer | held_of(code)
        for bit, move in self._writable:
            if not bit & taken:
                found.append((self._here | code | bit << 6, move))
        found.append((self._here | with_doom(code), "doom"))
        return found


class CallPoint(Point):
    """`call` of a function of the library; part is the number of its body."""

    def __init__(self, after, fail, part):
        Point.__init__(self, after, fail)
        self._part = part

    def inner(self, row, code):
        """The body, in the same situation."""
        return (self._part, case_here(row, code))

    def landings(self, row, code, face):
        """Ends as the body does."""
        return [((self.fail if face & END else self.after) | with_part(code, face), "")]


class LastPoint(CallPoint):
    """`finally`, to which one comes with any end; part is the number of its body."""

    def landings(self, row, code, face):
        """Ends by the error of the body, or as before."""
        end = face & END if face & END else code & END
        return [(self.onward(with_part(code, face) & SITUATION | end), "")]


class CatchPoint(Point):
    """The handlers of `try`, to which one comes by an error.

    starts has the keys of the bodies of the first handlers that mention the
    errors; other is that of the handler of all others, None if there is none.
    """

    def __init__(self, fail, starts, other):
        Point.__init__(self, fail, fail)
        self._keys = starts
        self._other = other

    def steps(self, row, code):
        """Executes a handler, or none."""
        key = self._keys.get(code & END, self._other)
        if key is None:
            return [(self.fail | code, "")]
        return [(key | code & SITUATION, "")]


class JoinedPoint(Point):
    """A block that joined, or has no effect, and that is left by an error; kept has bits as keys."""

    def __init__(self, fail, kept):
        Point.__init__(self, fail, fail)
        self._keeps = kept

    def steps(self, row, code):
        """Dooms the top level unless the error is kept."""
        if code & END in self._keeps:
            return [(self.fail | code, "")]
        return [(self.fail | top_doom(row, code), "")]


class BlockPoint(Point):
    """`block`; start is the key of its body where it joins, part the number of it elsewhere.

    bits has the bits of each error, and kept has those of the kept ones as keys.
    """

    def __init__(self, after, fail, mode, bits, kept):
        Point.__init__(self, after, fail)
        self._effects = EFFECTS[mode]
        self._bits = bits
        self._keeps = kept
        self.start = 0
        self.part = 0
        # What entering the block has been found to do, by the places in its effects.
        self.seen = {}

    def _effect(self, row, code):
        """What entering the block does here."""
        at = 0
        if not row.free:
            at = 2 if code & DOOMED else 1
        self.seen[at] = self._effects[at]
        return self._effects[at]

    def inner(self, row, code):
        """The body, where it begins in a situation of its own."""
        effect = self._effect(row, code)
        if effect not in PARTED:
            return None
        if effect == "adds":
            return (self.part, case_here(row, code))
        outer = (row.outer | held_of(code)) << 10
        return (self.part, outer | FREE if effect == "frees" else outer)

    def steps(self, row, code):
        """Executes the body in the same situation, or ends by the error of entering."""
        effect = self._effect(row, code)
        if effect == "joins":
            return [(self.start | code, "")]
        return [(self.fail | self._bits[effect] | code, "")]

    def landings(self, row, code, face):
        """Leaves the block as its body has ended."""
        effect = self._effect(row, code)
        end = face & END
        told = with_kept(code, kept_of(face))
        if effect == "frees":
            return [(self.onward(told | end), "")]
        if face & DOOMED or (end and end not in self._keeps):
            return [(self.onward(told | (end or self._bits["doomed"])), "")]
        if effect == "adds":
            return [(self.onward(with_part(code, face)), "")]
        made = with_kept(code, kept_of(face) | face & PENDING) | end
        return [(self.onward(made), "yes"), (self.fail | told | self._bits["refused"], "no")]
