"""Points 14 to 26 word by word: what is executed are generators that yield what is asked."""

import re

from innercommits.modes import Mode
from tests.test_model import Model, Wrong

MOVE = re.compile(f"yes|no|doom|return|enter ({'|'.join(Mode.ALL)})|leave( [a-z]{{1,8}})?"
                  "|(write|call|raise) [a-z]{1,8}")


def bodies_of(text):
    """From each function to its body, a list of (words, body, parts): parts are further bodies."""
    bodies, stack = {}, []
    for line in text.split("\n"):
        words = line.split()
        nesting = (len(line) - len(line.lstrip())) // 2
        if words[0] == "function":
            bodies[words[1]] = []
            stack = [bodies[words[1]]]
            continue
        statement = (words, [], [])
        here = stack[nesting - 1]
        if words[0] in ("except", "finally"):
            here[-1][2].append((words, statement[1]))
        else:
            here.append(statement)
        stack[nesting:] = [statement[1]]
    return bodies


class PlayModel:
    def __init__(self, text, strict, looked):
        self.bodies, self.strict, self.looked = bodies_of(text), strict, sorted(looked)
        words = [line.split() for line in text.split("\n")]
        self.errors = {"doomed", "missing", "present", "refused", "waits"}.union(*[
            row[3:] if row[0] == "block" else row[1:] if row[0] in ("raise", "except") else []
            for row in words])
        self.db, self.owners = Model(), []
        self.calls, self.running, self.floors = [], [], []
        self.moves, self.waited = [], []
        self.flow = self.turn(0)
        self.asked = next(self.flow)

    def move(self, move):
        """What the move returns, or the error with its field."""
        if not isinstance(move, str) or not MOVE.fullmatch(move):
            return ("BadMove", move)
        if not self.is_now(move.split()):
            return ("NotNow", move)
        self.reached, self.refused = "", None
        self.moves.append(move)
        self.asked = self.flow.send(move)
        if self.refused is not None:
            self.moves.pop()
            return self.refused
        return self.reached

    def depth(self):
        return len(self.db.blocks) - self.floors[-1]

    def is_now(self, words):
        if self.asked != ("caller",):
            return words[0] in ("yes", "no")
        if words[0] == "leave":
            return self.depth() > 0
        if words[0] == "doom":
            return self.db.present is not None
        if words[0] == "call":
            return words[1] in self.bodies
        if words[0] in ("return", "raise"):
            return len(self.floors) > 1 and self.depth() == 0
        return words[0] not in ("yes", "no")

    def turn(self, floor):
        self.floors.append(floor)
        while True:
            words = (yield ("caller",)).split()
            if words[0] in ("return", "raise"):
                self.floors.pop()
                return words[1] if len(words) > 1 else ""
            if words[0] == "call":
                self.reached = yield from self.call(words[1])
            elif words[0] == "leave":
                self.reached = yield from self.leave(words[1] if len(words) > 1 else None)
            else:
                self.own(words)

    def own(self, words):
        try:
            if words[0] == "enter":
                self.db.enter(words[1])
            elif words[0] == "write":
                self.db.write(words[1], 0)
                self.owners.append(None)
            else:
                self.db.doom("doom")
        except Wrong as error:
            self.refused = error.args

    def leave(self, error):
        """Leaves a block; the word of the error that this is."""
        commits = True
        if error is None and self.db.blocks[-1][0] == "opened" and self.db.present[-1][0] is None:
            commits = (yield ("commit",)) == "yes"
        try:
            self.db.leave(error, commits)
        except Wrong as wrong:
            return wrong.args[0].lower()
        return ""

    def case(self):
        state = "none"
        if self.db.present is not None:
            state = "open" if self.db.present[-1][0] is None else "doomed"
        return (state, tuple(record for record in self.looked if record in self.db.outer()),
                tuple(record for record in self.looked if record in self.db.holds(self.db.present)))

    def with_fate(self, number, fate):
        return tuple(sorted({record for (record, _, told), owner in zip(self.db.made, self.owners)
                             if owner == number and told == fate}))

    def call(self, name):
        call = {"name": name, "case": self.case(), "begun": len(self.moves), "face": None}
        number = len(self.calls)
        self.calls.append(call)
        self.running.append(number)
        end = yield from self.body(self.bodies[name])
        self.running.pop()
        state, _, held = self.case()
        kept = self.with_fate(number, "kept")
        pending = [record for record in self.with_fate(number, "open") if record not in kept]
        call["length"] = len(self.moves) - call["begun"]
        call["face"] = (end if end in self.errors | {""} else "?", state == "doomed", held, kept,
                        () if state == "doomed" else tuple(pending))
        return end

    def body(self, statements):
        for statement in statements:
            end = yield from self.statement(*statement)
            if end != "":
                return end
        return ""

    def statement(self, words, body, parts):
        kind = words[0]
        if kind == "raise":
            return words[1]
        if kind == "doom":
            self.db.doom("doom")
        if kind == "write":
            return (yield from self.write(words[1]))
        if kind == "call" and words[1] in self.bodies:
            return (yield from self.body(self.bodies[words[1]]))
        if kind == "call":
            return (yield from self.turn(len(self.db.blocks)))
        if kind == "maybe" and (yield ("maybe",)) == "yes":
            return (yield from self.body(body))
        if kind == "repeat":
            while (yield ("repeat",)) == "yes":
                end = yield from self.body(body)
                if end != "":
                    return end
        if kind == "block":
            return (yield from self.block(words, body))
        if kind == "try":
            return (yield from self.attempt(body, parts))
        return ""

    def write(self, record):
        if self.db.present is not None and self.db.present[-1][0] is not None:
            return "doomed"
        end = "refused"
        if record in self.db.outer():
            end = "waits"
            self.waited.append((self.running[-1], record))
        elif (yield ("write", record)) == "yes":
            self.db.write(record, 0)
            self.owners.append(self.running[-1])
            return ""
        if self.strict:
            self.db.doom(end)
        return end

    def block(self, words, body):
        try:
            self.db.enter(words[1])
        except Wrong as error:
            return error.args[0].lower()
        end = yield from self.body(body)
        is_well = end == "" or end in words[3:]
        left = yield from self.leave(None if is_well else end)
        return left if left == "refused" or end == "" else end

    def attempt(self, body, parts):
        end = yield from self.body(body)
        for words, handler in parts:
            if words[0] == "except" and end != "" and (end in words[1:] or len(words) == 1):
                end = yield from self.body(handler)
                break
        if parts[-1][0] == ["finally"]:
            last = yield from self.body(parts[-1][1])
            end = last if last != "" else end
        return end

    def told(self):
        """All that a play tells, in the order of play_told."""
        calls = [(call["name"], call["case"], self.with_fate(number, "kept"), call["face"],
                  call["length"] if call["face"] else None) for number, call in enumerate(self.calls)]
        is_turn = self.asked == ("caller",)
        return (tuple(self.moves), self.asked, is_turn and len(self.floors) == 1 and not self.db.blocks,
                self.depth() if is_turn else 0, calls, self.with_fate(None, "kept"),
                [(owner, record, fate) for (record, _, fate), owner in zip(self.db.made, self.owners)],
                list(self.waited))
