"""Points 27 and 28 word by word: functions of library and caller are executed by functions of Python."""

from tests.play_model import bodies_of
from tests.test_model import Model, Wrong


class RunModel:
    """A run: its answers, the moves of the library's own play, and how the first function ended."""

    def __init__(self, library, caller, start, answers, strict):
        self.library, self.caller = bodies_of(library), bodies_of(caller)
        self.answers, self.strict = list(answers), strict
        self.db, self.given, self.moves = Model(), [], []
        self.end = self.body(self.caller[start], False)

    def ask(self, inside):
        answer = self.answers.pop(0) if self.answers else "no"
        self.given.append(answer)
        if inside:
            self.moves.append(answer)
        return answer == "yes"

    def tell(self, inside, move):
        if not inside:
            self.moves.append(move)

    def is_free(self):
        return self.db.present is None

    def is_doomed(self):
        return not self.is_free() and self.db.present[-1][0] is not None

    def body(self, statements, inside):
        for words, body, parts in statements:
            end = getattr(self, "do_" + words[0])(words, body, parts, inside)
            if end != "":
                return end
        return ""

    def do_pass(self, words, body, parts, inside):
        return ""

    def do_raise(self, words, body, parts, inside):
        return words[1]

    def do_doom(self, words, body, parts, inside):
        if not self.is_free():
            self.tell(inside, "doom")
            self.db.doom("doom")
        return ""

    def do_write(self, words, body, parts, inside):
        if self.is_doomed():
            return "doomed"
        end = "waits"
        if words[1] not in self.db.outer():
            if self.ask(inside):
                self.tell(inside, "write " + words[1])
                self.db.write(words[1], 0)
                return ""
            end = "refused"
        if self.strict and not self.is_free():
            self.tell(inside, "doom")
            self.db.doom(end)
        return end

    def do_call(self, words, body, parts, inside):
        if words[1] in self.library:
            self.tell(inside, "call " + words[1])
            return self.body(self.library[words[1]], True)
        end = self.body(self.caller[words[1]], False)
        if inside:
            self.moves.append("return" if end == "" else "raise " + end)
        return end

    def do_maybe(self, words, body, parts, inside):
        return self.body(body, inside) if self.ask(inside) else ""

    def do_repeat(self, words, body, parts, inside):
        while self.ask(inside):
            end = self.body(body, inside)
            if end != "":
                return end
        return ""

    def do_block(self, words, body, parts, inside):
        try:
            self.db.enter(words[1])
        except Wrong as error:
            return error.args[0].lower()
        self.tell(inside, "enter " + words[1])
        end = self.body(body, inside)
        is_well = end in ("", *words[3:])
        self.tell(inside, "leave" if is_well else "leave " + end)
        commits = True
        if is_well and self.db.blocks[-1][0] == "opened" and not self.is_doomed():
            commits = self.ask(inside)
            self.tell(inside, "yes" if commits else "no")
        try:
            self.db.leave(None if is_well else end, commits)
        except Wrong as error:
            word = error.args[0].lower()
            return word if word == "refused" or end == "" else end
        return end

    def do_try(self, words, body, parts, inside):
        end = self.body(body, inside)
        handlers = [handler for told, handler in parts if told[0] == "except" and end != "" and (
            end in told[1:] or len(told) == 1)]
        if handlers:
            end = self.body(handlers[0], inside)
        if parts[-1][0] == ["finally"]:
            return self.body(parts[-1][1], inside) or end
        return end
