import types
import unittest

from innercommits.database import Database
from innercommits.errors import BadWord, Doomed, NoRecord, Waits
from tests.helpers import NO_WORDS, STATES, doomed, fates_of, free, parted, snapshot
from tests.helpers import suspended, within_one


class WriteTest(unittest.TestCase):
    def test_without_a_transaction_it_is_kept_at_once(self):
        db = Database()
        db["a"] = 5
        self.assertEqual(list(db.fates()), [("a", 5, "kept")])
        self.assertEqual([db["a"], db.kept_values(), db.held_records()], [5, {"a": 5}, []])

    def test_in_a_transaction_it_is_held(self):
        db = within_one()
        self.assertEqual(list(db.fates()), [("x", 1, "open")])
        self.assertEqual([db.held_records(), db.outer_records(), db.kept_values()], [["x"], [], {}])

    def test_again_by_the_one_that_holds_it(self):
        db = within_one()
        db["x"] = 2
        db.enter("inner")
        db["x"] = 3
        self.assertEqual([db["x"], db.held_records(), fates_of(db)], [3, ["x"], ["open"] * 3])
        db.leave("late")
        self.assertEqual([db["x"], db.held_records()], [2, ["x"]])
        db.leave()
        self.assertEqual(fates_of(db), ["kept", "kept", "undone"])
        self.assertEqual(db.kept_values(), {"x": 2})

    def test_doomed(self):
        db = doomed()
        before = snapshot(db)
        for record in ("x", "a"):
            with self.assertRaises(Doomed) as caught:
                db[record] = 7
            self.assertEqual(caught.exception.first, "late")
            self.assertEqual(snapshot(db), before)

    def test_waits_for_a_suspended_one(self):
        for db in (suspended(), parted()):
            before = snapshot(db)
            with self.assertRaises(Waits) as caught:
                db["x"] = 7
            self.assertEqual(caught.exception.record, "x")
            self.assertEqual(snapshot(db), before)
            db["a"] = 7
            self.assertEqual(db["a"], 7)

    def test_waits_for_any_suspended_one_and_any_level(self):
        db = within_one()
        db.enter("inner")
        db["a"] = 1
        db.enter("apart")
        db["b"] = 1
        db.enter("outside")
        db.enter("join")
        self.assertEqual(db.outer_records(), ["a", "b", "x"])
        for record in ("x", "a", "b"):
            with self.assertRaises(Waits):
                db[record] = 2
        db["c"] = 2
        db["c"] = 3
        self.assertEqual([db.held_records(), db.outer_records()], [["c"], ["a", "b", "x"]])

    def test_no_wait_for_what_was_undone(self):
        db = within_one()
        db.enter("inner")
        db["a"] = 1
        db.leave("late")
        db.enter("apart")
        db["a"] = 2
        db.leave()
        self.assertEqual(fates_of(db), ["open", "undone", "kept"])

    def test_doomed_is_ahead_of_waits(self):
        db = parted()
        db.doom("late")
        with self.assertRaises(Doomed) as caught:
            db["x"] = 2
        self.assertEqual(caught.exception.first, "late")

    def test_a_bad_word_is_ahead_of_both(self):
        for make in STATES + [doomed_apart]:
            for thing in NO_WORDS:
                db = make()
                before = snapshot(db)
                with self.assertRaises(BadWord) as caught:
                    db[thing] = 7
                self.assertEqual(caught.exception.word, thing)
                self.assertEqual(snapshot(db), before)

    def test_no_wait_when_the_holder_is_present_again(self):
        db = parted()
        db.leave()
        db["x"] = 2
        self.assertEqual(db["x"], 2)

    def test_values(self):
        for value in (0, -1, 10 ** 30 - 1, 1 - 10 ** 30):
            db = Database()
            db["a"] = value
            self.assertEqual(db["a"], value)
            self.assertEqual(list(db.fates()), [("a", value, "kept")])


def doomed_apart():
    db = parted()
    db.doom("late")
    return db


class SeenTest(unittest.TestCase):
    def test_nothing_is_seen(self):
        for make in STATES:
            db = make()
            before = snapshot(db)
            with self.assertRaises(NoRecord) as caught:
                db["a"]
            self.assertEqual(caught.exception.record, "a")
            self.assertIs("a" in db, False)
            self.assertEqual(snapshot(db), before)

    def test_bad_words(self):
        for make in STATES:
            for thing in NO_WORDS:
                db = make()
                before = snapshot(db)
                with self.assertRaises(BadWord) as caught:
                    db[thing]
                self.assertEqual(caught.exception.word, thing)
                self.assertIs(thing in db, False)
                self.assertEqual(snapshot(db), before)

    def test_not_what_a_suspended_one_wrote(self):
        for db in (suspended(), parted()):
            self.assertIs("x" in db, False)
            with self.assertRaises(NoRecord):
                db["x"]
            db.leave()
            self.assertEqual(db["x"], 1)

    def test_what_was_kept_before_a_suspended_one_wrote(self):
        db = Database()
        db["a"] = 1
        db.enter("join")
        db["a"] = 2
        self.assertEqual([db["a"], db.kept_values()], [2, {"a": 1}])
        for mode in ("outside", "apart"):
            db.enter(mode)
            self.assertEqual(db["a"], 1)
            db.leave()
        db.leave("late")
        self.assertEqual(db["a"], 1)

    def test_in_a_doomed_level(self):
        db = doomed()
        self.assertEqual([db["x"], "x" in db], [1, True])

    def test_behind_keeping_and_undoing(self):
        db = Database()
        db.enter("join")
        db["a"] = 1
        db.leave()
        self.assertEqual(db["a"], 1)
        db.enter("join")
        db["a"] = 2
        db["b"] = 2
        db.leave("late")
        self.assertEqual([db["a"], "b" in db], [1, False])
        with self.assertRaises(NoRecord):
            db["b"]

    def test_kept_apart_is_seen_in_the_present_one(self):
        db = within_one()
        db.enter("apart")
        db["a"] = 1
        db.leave()
        self.assertEqual(db["a"], 1)
        db["a"] = 2
        self.assertEqual(db["a"], 2)
        db.leave()
        self.assertEqual(db.kept_values(), {"a": 2, "x": 1})

    def test_a_database_is_not_iterated_over(self):
        with self.assertRaises(TypeError):
            list(Database())


class ListsTest(unittest.TestCase):
    def filled(self):
        db = Database()
        for record in ("c", "a", "b", "a"):
            db[record] = len(record)
        for mode in ("join", "apart"):
            db.enter(mode)
            for record in ("f", "d", "e", "d"):
                db[record + mode[:1]] = 4
        return db

    def test_ascending_without_repetitions(self):
        db = self.filled()
        self.assertEqual(list(db.kept_values()), ["a", "b", "c"])
        self.assertEqual(db.held_records(), ["da", "ea", "fa"])
        self.assertEqual(db.outer_records(), ["dj", "ej", "fj"])

    def test_new_each_time(self):
        db = self.filled()
        before = snapshot(db)
        for told in (db.held_records(), db.outer_records(), db.kept_values()):
            told.clear()
        db.held_records().append("z")
        db.outer_records().append("z")
        db.kept_values()["a"] = 99
        self.assertEqual(snapshot(db), before)

    def test_kinds(self):
        for make in STATES:
            db = make()
            self.assertIs(type(db.held_records()), list)
            self.assertIs(type(db.outer_records()), list)
            self.assertIs(type(db.kept_values()), dict)
            self.assertIsInstance(db.fates(), types.GeneratorType)

    def test_outside_all_is_outer(self):
        db = self.filled()
        db.enter("outside")
        self.assertEqual(db.held_records(), [])
        self.assertEqual(db.outer_records(), ["da", "dj", "ea", "ej", "fa", "fj"])

    def test_fates_in_the_order_of_the_writes(self):
        db = free()
        db["b"] = 1
        db.enter("join")
        db["a"] = 2
        db.enter("inner")
        db["c"] = 3
        db.leave("late")
        db.enter("apart")
        db["b"] = 4
        db.leave()
        db["b"] = 5
        fates = [("b", 1, "kept"), ("a", 2, "open"), ("c", 3, "undone"), ("b", 4, "kept"), ("b", 5, "open")]
        self.assertEqual(list(db.fates()), fates)
        self.assertTrue(all(type(fate) is tuple for fate in db.fates()))
        db.leave()
        kept = [(record, value, fate.replace("open", "kept")) for record, value, fate in fates]
        self.assertEqual(list(db.fates()), kept)

    def test_the_last_value_that_was_kept(self):
        db = Database()
        for value, error in ((1, None), (2, "late"), (3, None), (4, "late")):
            db.enter("join")
            db["a"] = value
            db["a"] = value + 10
            db.leave(error)
        self.assertEqual(db.kept_values(), {"a": 13})


class HolderTest(unittest.TestCase):
    def test_who_holds_a_record(self):
        told = [(make.__name__, make().holds("x"), make().has_suspended("x")) for make in STATES]
        self.assertEqual(told, [("free", False, False), ("within_one", True, False), ("doomed", True, False),
                                ("levelled", True, False), ("suspended", False, True), ("parted", False, True)])

    def test_the_last_write(self):
        db = within_one()
        db["y"] = 2
        write = db.last_write()
        self.assertEqual([write.record, write.value, write.fate], ["y", 2, "open"])
        db.leave()
        self.assertEqual(write.fate, "kept")


if __name__ == "__main__":
    unittest.main()
