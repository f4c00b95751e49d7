"""Point 30 word by word: bodies are executed from situations until no row of the table changes."""

import itertools

from innercommits.texts import Library
from tests.play_model import bodies_of

NOTHING = frozenset()


def all_sets(records):
    return [frozenset(some) for many in range(len(records) + 1) for some in itertools.combinations(records, many)]


def told(some):
    return tuple(sorted(some))


def entries(records, silent):
    """Point 29."""
    found = set()
    for outer in all_sets(() if silent else records):
        found.add(("none", told(outer), ()))
        for held in all_sets(() if silent else records):
            if not outer & held:
                found |= {("open", told(outer), told(held)), ("doomed", told(outer), told(held))}
    return sorted(found)


def least(pairs):
    found = {}
    for key, number in pairs:
        if key not in found or number < found[key]:
            found[key] = number
    return found


def settled(state, outer, held, kept, pending):
    """A situation in which what always holds does so."""
    return (state, outer, held, kept, NOTHING if state == "doomed" else pending - kept)


def doomed(situation):
    state, *rest = situation
    return settled("doomed" if state == "open" else state, *rest)


class Lacking(Exception):
    """A row that is asked for is not there."""


class TableModel:
    """Executes bodies; `table` has the rows that calls of functions of the library are told."""

    def __init__(self, text, records, strict, silent, table=None):
        library = Library(text)
        self.bodies, self.records = bodies_of(text), records
        self.strict, self.silent = strict, silent
        self.ends = library.errors() + ["?"]
        self.is_given = table is not None
        self.table = {} if table is None else table
        self.waited = set()

    def row(self, name, case):
        """What the rules lead to for a row."""
        state, outer, held = case
        start = (state, frozenset(outer), frozenset(held), NOTHING, NOTHING)
        found = []
        for (end, (state, _, held, kept, pending)), number in self.body(self.bodies[name], start).items():
            found.append(((end, state == "doomed", told(held), told(kept), told(pending)), number))
        return least(found)

    def solve(self, names):
        for name in names:
            for case in entries(self.records, self.silent):
                self.table.setdefault((name, case), {})
        before = None
        while before != self.table:
            before = {place: dict(faces) for place, faces in self.table.items()}
            for name, case in list(self.table):
                self.table[(name, case)] = self.row(name, case)
        return self.certificate()

    def certificate(self):
        return tuple(sorted((place, tuple(sorted(faces.items()))) for place, faces in self.table.items()))

    def is_closed(self):
        """Whether the given rows are closed; each of them is looked at."""
        good = True
        for (name, case), faces in self.table.items():
            try:
                row = self.row(name, case)
            except Lacking:
                good = False
                continue
            good = good and all(face in faces and faces[face] <= number for face, number in row.items())
        return good

    def body(self, statements, start):
        """From (end, situation) to the least number."""
        here, done = {start: 0}, []
        for words, body, parts in statements:
            after = []
            for situation, number in here.items():
                for (end, other), more in self.statement(words, body, parts, situation).items():
                    (after if end == "" else done).append(
                        (other if end == "" else (end, other), number + more))
            here = least(after)
        return least(done + [(("", situation), number) for situation, number in here.items()])

    def statement(self, words, body, parts, here):
        kind = words[0]
        if kind == "pass":
            return {("", here): 0}
        if kind == "raise":
            return {(words[1], here): 0}
        if kind == "doom":
            return {("", doomed(here)): 0}
        if kind == "write":
            return self.write(words[1], here)
        if kind == "call":
            return self.call(words[1], here) if words[1] in self.bodies else self.unknown(here)
        if kind == "maybe":
            return least([(("", here), 1)] + [(key, 1 + more) for key, more in self.body(body, here).items()])
        if kind == "repeat":
            return self.repeat(body, here)
        if kind == "try":
            return self.attempt(body, parts, here)
        return self.block(words[1], words[3:], body, here)

    def write(self, record, here):
        state, outer, held, kept, pending = here
        failed = doomed(here) if self.strict else here
        if state == "doomed":
            return {("doomed", here): 0}
        if record in outer:
            self.waited.add(record)
            return {("waits", failed): 0}
        if state == "none":
            made = settled(state, outer, held, kept | {record}, pending)
        else:
            made = settled(state, outer, held | {record}, kept, pending | {record})
        return {("", made): 1, ("refused", failed): 1}

    def repeat(self, body, here):
        found, best, waiting = [], {here: 0}, [here]
        while waiting:
            situation = waiting.pop()
            number = best[situation]
            found.append((("", situation), number + 1))
            for (end, other), more in self.body(body, situation).items():
                if end != "":
                    found.append(((end, other), number + 1 + more))
                elif other not in best or number + 1 + more < best[other]:
                    best[other] = number + 1 + more
                    waiting.append(other)
        return least(found)

    def call(self, name, here):
        state, outer, held, kept, pending = here
        place = (name, (state, told(outer), told(held)))
        if place not in self.table:
            if self.is_given:
                raise Lacking()
            self.table[place] = {}
        found = []
        for (end, is_doomed, now, more, others), number in self.table[place].items():
            after = settled(state, outer, frozenset(now), kept | set(more), pending | set(others))
            found.append(((end, doomed(after) if is_doomed else after), number))
        return least(found)

    def unknown(self, here):
        state, outer, held, kept, pending = here
        found = []
        for some in all_sets(self.records):
            if not some & outer and (not some or (state == "open" and not self.silent)):
                grown = settled(state, outer, held | some, kept, pending)
                for end in ["", *self.ends]:
                    found.append(((end, grown), 1 + len(some - held)))
                    found.append(((end, doomed(grown)), 2 + len(some - held)))
        return least(found)

    def block(self, mode, keeps, body, here):
        state, outer, held, kept, pending = here
        is_here = state != "none"
        if mode == "must" and not is_here:
            return {("missing", here): 0}
        if mode in ("never", "alone") and is_here:
            return {("present", here): 0}
        if mode == "inner" and state == "doomed":
            return {("doomed", here): 0}
        if is_here and mode in ("join", "must", "either"):
            ends = self.body(body, here)
            return least(((end, doomed(other) if end not in ("", *keeps) else other), number)
                         for (end, other), number in ends.items())
        if not is_here and mode in ("either", "never", "outside"):
            return self.body(body, here)
        if is_here and mode == "outside":
            return least(((end, settled(state, outer, held, kept | more, pending)), number)
                         for (end, (_, _, _, more, _)), number in
                         self.body(body, ("none", outer | held, NOTHING, NOTHING, NOTHING)).items())
        if is_here and mode == "inner":
            return self.level(keeps, body, here)
        found = []
        for (end, (its, _, _, more, others)), number in self.body(
                body, ("open", outer | held, NOTHING, NOTHING, NOTHING)).items():
            if end in ("", *keeps) and its == "open":
                found.append(((end, settled(state, outer, held, kept | more | others, pending)), number + 1))
                found.append((("refused", settled(state, outer, held, kept | more, pending)), number + 1))
            else:
                found.append(((end or "doomed", settled(state, outer, held, kept | more, pending)), number))
        return least(found)

    def level(self, keeps, body, here):
        state, outer, held, kept, pending = here
        found = []
        for (end, (its, _, now, more, others)), number in self.body(
                body, ("open", outer, held, NOTHING, NOTHING)).items():
            if end in ("", *keeps) and its == "open":
                found.append(((end, settled(state, outer, now, kept | more, pending | others)), number))
            else:
                found.append(((end or "doomed", settled(state, outer, held, kept | more, pending)), number))
        return least(found)

    def attempt(self, body, parts, here):
        found = []
        for (end, other), number in self.body(body, here).items():
            handlers = [handler for words, handler in parts if words[0] == "except" and end != "" and (
                end in words[1:] or len(words) == 1)]
            if handlers:
                found.extend((key, number + more) for key, more in self.body(handlers[0], other).items())
            else:
                found.append(((end, other), number))
        if parts[-1][0] != ["finally"]:
            return least(found)
        last = []
        for (end, other), number in found:
            for (late, after), more in self.body(parts[-1][1], other).items():
                last.append(((late or end, after), number + more))
        return least(last)
