"""Libraries by chance, and a plain model of how their texts are to be read."""

import re

from innercommits.modes import Mode

WORD = "[a-z]{1,8}"
SIMPLE = re.compile(f"pass|doom|(write|raise|call) {WORD}")
LEADING = re.compile(f"maybe|repeat|block ({'|'.join(Mode.ALL)})( keep( {WORD})+)?")
HANDLER = re.compile(f"except( {WORD})*")
FUNCTION = re.compile(f"function {WORD}")


class Bad(Exception):
    """A wrong line."""


class Grammar:
    """Point 10 as a grammar; each method is told a line's number, and tells the next one."""

    def __init__(self, text):
        self.lines = text.split("\n")

    def is_at(self, at, nesting, pattern):
        if at == len(self.lines):
            return False
        return re.fullmatch("  " * nesting + f"({pattern.pattern})", self.lines[at]) is not None

    def library(self):
        at, names = 0, set()
        while at < len(self.lines) or not names:
            if not self.is_at(at, 0, FUNCTION) or self.lines[at] in names:
                raise Bad(at)
            names.add(self.lines[at])
            at = self.body(at + 1, 1)

    def body(self, at, nesting):
        after = self.statement(at, nesting)
        if after == at:
            raise Bad(at)
        while after != at:
            at, after = after, self.statement(after, nesting)
        return at

    def statement(self, at, nesting):
        if nesting <= 8 and self.is_at(at, nesting, SIMPLE):
            return at + 1
        if nesting <= 7 and self.is_at(at, nesting, LEADING):
            return self.body(at + 1, nesting + 1)
        if nesting <= 7 and self.is_at(at, nesting, re.compile("try")):
            return self.handlers(self.body(at + 1, nesting + 1), nesting)
        return at

    def handlers(self, at, nesting):
        start = at
        while self.is_at(at, nesting, HANDLER):
            bare = self.lines[at].strip() == "except"
            at = self.body(at + 1, nesting + 1)
            if bare:
                break
        if self.is_at(at, nesting, re.compile("finally")):
            return self.body(at + 1, nesting + 1)
        if at == start:
            raise Bad(at)
        return at


def first_wrong(text):
    """The number that BadLibrary is to tell of the text, None if it is right."""
    try:
        Grammar(text).library()
    except Bad as error:
        return error.args[0]
    return None


class Writer:
    """Writes texts of libraries by chance."""

    def __init__(self, chance, names=("f", "g"), called=("f", "g", "h"), records=("a", "b"),
                 errors=("late", "bad", "refused", "waits", "doomed"), modes=Mode.ALL,
                 simple=("write", "write", "write", "call", "raise", "doom", "pass")):
        self.chance, self.simple = chance, simple
        self.names, self.called = names, called
        self.records, self.errors, self.modes = records, errors, modes

    def library(self, size):
        lines = []
        for name in self.names:
            lines.append("function " + name)
            lines.extend(self.body(1, size))
        return "\n".join(lines)

    def body(self, nesting, size):
        lines = []
        for _ in range(self.chance.randint(1, max(1, min(size, 4)))):
            lines.extend(self.statement(nesting, size - 1))
        return lines

    def some(self, words):
        return " ".join(self.chance.choices(words, k=self.chance.randint(1, 2)))

    def statement(self, nesting, size):
        kinds = self.simple
        if size > 0 and nesting < 8:
            kinds += ("block", "block", "block", "block", "try", "try", "maybe", "repeat")
        kind = self.chance.choice(kinds)
        room = "  " * nesting
        if kind in ("write", "raise", "call"):
            words = {"write": self.records, "raise": self.errors, "call": self.called}[kind]
            return [f"{room}{kind} {self.chance.choice(words)}"]
        if kind in ("pass", "doom"):
            return [room + kind]
        if kind == "block":
            kind += " " + self.chance.choice(self.modes)
            if self.chance.random() < 0.4:
                kind += " keep " + self.some(self.errors)
        lines = [room + kind] + self.body(nesting + 1, size - 1)
        return lines + (self.parts_of_try(nesting, size) if kind == "try" else [])

    def parts_of_try(self, nesting, size):
        room, lines = "  " * nesting, []
        heads = [room + "except " + self.some(self.errors)] * self.chance.randint(0, 2)
        heads += [room + "except"] * self.chance.randint(0, 1)
        heads += [room + "finally"] * self.chance.randint(0, 1)
        for head in heads or [room + "finally"]:
            lines += [head] + self.body(nesting + 1, size - 1)
        return lines
