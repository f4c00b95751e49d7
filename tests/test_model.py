"""The database beside a plain model of the document, over very many sequences of calls."""

import itertools
import random
import unittest

from innercommits.database import Database
from innercommits.modes import Mode

RECORDS = ("a", "b")


class Wrong(Exception):
    """An error of the model, told by its class's name and its field, as the database's."""


class Model:
    """Points 5 to 8 word by word, by looking through all writes each time."""

    def __init__(self):
        self.made = []       # [record, value, fate]
        self.blocks = []     # (what the block did, the transaction suspended by it)
        self.present = None  # a list of levels, each [first word, numbers of its writes]

    def suspended(self):
        return [held for did, held in self.blocks if did in ("opened", "outside") and held is not None]

    def holds(self, held):
        return {self.made[number][0] for _, numbers in held or [] for number in numbers}

    def outer(self):
        return set().union(*[self.holds(held) for held in self.suspended()])

    def enter(self, mode):
        here = self.present is not None
        if mode == "must" and not here:
            raise Wrong("Missing", mode)
        if mode in ("never", "alone") and here:
            raise Wrong("Present", mode)
        if mode == "inner" and here:
            if self.present[-1][0] is not None:
                raise Wrong("Doomed", self.present[-1][0])
            self.present.append([None, []])
            self.blocks.append(("added", None))
        elif mode in ("join", "must", "either") and here:
            self.blocks.append(("joined", None))
        elif mode in ("either", "never"):
            self.blocks.append(("nothing", None))
        else:
            self.blocks.append(("outside" if mode == "outside" else "opened", self.present))
            self.present = None if mode == "outside" else [[None, []]]

    def settle(self, numbers, fate):
        for number in numbers:
            self.made[number][2] = fate

    def leave(self, error, commits):
        if not self.blocks:
            raise Wrong("NoBlock", None)
        did, held = self.blocks.pop()
        if did == "joined" and error is not None and self.present[-1][0] is None:
            self.present[-1][0] = error
        if did == "outside":
            self.present = held
        if did in ("opened", "added"):
            first, numbers = self.present.pop()
            if did == "opened":
                self.present = held
            if error is not None or first is not None:
                self.settle(numbers, "undone")
                if error is None:
                    raise Wrong("Doomed", first)
            elif did == "added":
                self.present[-1][1].extend(numbers)
            else:
                self.settle(numbers, "kept" if commits else "undone")
                if not commits:
                    raise Wrong("Refused", None)

    def write(self, record, value):
        if self.present is not None and self.present[-1][0] is not None:
            raise Wrong("Doomed", self.present[-1][0])
        if record in self.outer():
            raise Wrong("Waits", record)
        self.made.append([record, value, "kept" if self.present is None else "open"])
        if self.present is not None:
            self.present[-1][1].append(len(self.made) - 1)

    def doom(self, first):
        if self.present is not None and self.present[-1][0] is None:
            self.present[-1][0] = first

    def seen(self, record):
        own = [number for _, numbers in self.present or [] for number in numbers]
        found = [value for number, (other, value, fate) in enumerate(self.made)
                 if other == record and (fate == "kept" or number in own)]
        return found[-1] if found else None

    def told(self):
        levels = self.present or []
        first = levels[-1][0] if levels else None
        kept = {record: value for record, value, fate in self.made if fate == "kept"}
        return (bool(levels), first is not None, first, len(levels), len(self.blocks),
                sorted(self.holds(levels)), sorted(self.outer()), sorted(kept.items()),
                [tuple(write) for write in self.made], [self.seen(record) for record in RECORDS])


def told_by(db):
    return (db.is_open, db.is_doomed, db.reason, db.levels, db.depth,
            db.held_records(), db.outer_records(), list(db.kept_values().items()),
            list(db.fates()), [db[record] if record in db else None for record in RECORDS])


STEPS = (
    [("enter", mode) for mode in Mode.ALL]
    + [("leave", None, True), ("leave", None, False), ("leave", "late", True)]
    + [("write", record) for record in RECORDS] + [("doom", "early")]
)


def do(db, step, value):
    """Makes the call on the database; the error as the model tells it."""
    try:
        if step[0] == "enter":
            db.enter(step[1])
        elif step[0] == "leave":
            db.leave(step[1], commits=step[2])
        elif step[0] == "write":
            db[step[1]] = value
        else:
            db.doom(step[1])
    except ValueError as error:
        fields = {name: field for name, field in vars(error).items() if name != "word"}
        return (type(error).__name__, *(fields.values() or [None]))
    return None


def do_model(model, step, value):
    try:
        if step[0] == "write":
            model.write(step[1], value)
        else:
            getattr(model, step[0])(*step[1:])
    except Wrong as error:
        return error.args
    return None


class ModelTest(unittest.TestCase):
    def run_both(self, steps, looks_each_time):
        db, model = Database(), Model()
        for value, step in enumerate(steps):
            self.assertEqual(do(db, step, value), do_model(model, step, value), steps)
            if looks_each_time:
                self.assertEqual(told_by(db), model.told(), steps)
        self.assertEqual(told_by(db), model.told(), steps)

    def test_all_short_sequences(self):
        for steps in itertools.product(STEPS, repeat=4):
            self.run_both(steps, False)

    def test_many_long_sequences(self):
        chance = random.Random(8)
        weights = [2] * 8 + [5, 1, 1] + [6, 6] + [1]
        for _ in range(1500):
            self.run_both(chance.choices(STEPS, weights, k=50), True)


if __name__ == "__main__":
    unittest.main()
