import unittest

from innercommits.database import Database
from innercommits.errors import BadMode, BadWord, Doomed, Missing, NoBlock, Present, Refused
from innercommits.modes import Mode
from tests.helpers import NO_WORDS, STATES, doomed, fates_of, free, levelled, parted, snapshot
from tests.helpers import standing, suspended, within_one

# For each mode what standing() tells once it was entered, or the error and its one field.
# Outside of all blocks:
FREE = {
    "join": (True, False, None, 1, 1), "inner": (True, False, None, 1, 1),
    "apart": (True, False, None, 1, 1), "must": (Missing, "must"),
    "either": (False, False, None, 0, 1), "never": (False, False, None, 0, 1),
    "outside": (False, False, None, 0, 1), "alone": (True, False, None, 1, 1),
}
# In a transaction of one level:
WITHIN = {
    "join": (True, False, None, 1, 2), "inner": (True, False, None, 2, 2),
    "apart": (True, False, None, 1, 2), "must": (True, False, None, 1, 2),
    "either": (True, False, None, 1, 2), "never": (Present, "never"),
    "outside": (False, False, None, 0, 2), "alone": (Present, "alone"),
}
DOOMED = {
    "join": (True, True, "late", 1, 2), "inner": (Doomed, "late"),
    "apart": (True, False, None, 1, 2), "must": (True, True, "late", 1, 2),
    "either": (True, True, "late", 1, 2), "never": (Present, "never"),
    "outside": (False, False, None, 0, 2), "alone": (Present, "alone"),
}
LEVELLED = {
    "join": (True, False, None, 2, 3), "inner": (True, False, None, 3, 3),
    "apart": (True, False, None, 1, 3), "must": (True, False, None, 2, 3),
    "either": (True, False, None, 2, 3), "never": (Present, "never"),
    "outside": (False, False, None, 0, 3), "alone": (Present, "alone"),
}
SUSPENDED = {
    "join": (True, False, None, 1, 3), "inner": (True, False, None, 1, 3),
    "apart": (True, False, None, 1, 3), "must": (Missing, "must"),
    "either": (False, False, None, 0, 3), "never": (False, False, None, 0, 3),
    "outside": (False, False, None, 0, 3), "alone": (True, False, None, 1, 3),
}
PARTED = {
    "join": (True, False, None, 1, 3), "inner": (True, False, None, 2, 3),
    "apart": (True, False, None, 1, 3), "must": (True, False, None, 1, 3),
    "either": (True, False, None, 1, 3), "never": (Present, "never"),
    "outside": (False, False, None, 0, 3), "alone": (Present, "alone"),
}
EXPECTED = [
    (free, FREE), (within_one, WITHIN), (doomed, DOOMED),
    (levelled, LEVELLED), (suspended, SUSPENDED), (parted, PARTED),
]


def field_of(error):
    return error.first if isinstance(error, Doomed) else error.mode


CASES = [(make, mode, table[mode]) for make, table in EXPECTED for mode in Mode.ALL]
ENTERED = [(make, mode) for make, mode, expected in CASES if len(expected) == 5]


class EnterTest(unittest.TestCase):
    def test_each_mode_in_each_state(self):
        for make, mode, expected in CASES:
            with self.subTest(make.__name__, mode=mode):
                db = make()
                before = snapshot(db)
                if len(expected) == 5:
                    self.assertIsNone(db.enter(mode))
                    self.assertEqual(standing(db), expected)
                    continue
                with self.assertRaises(expected[0]) as caught:
                    db.enter(mode)
                self.assertEqual(field_of(caught.exception), expected[1])
                self.assertEqual(snapshot(db), before)

    def test_each_mode_left_well_gives_what_was_before(self):
        for make, mode in ENTERED:
            with self.subTest(make.__name__, mode=mode):
                db = make()
                before = snapshot(db)
                db.enter(mode=mode)
                self.assertIsNone(db.leave())
                self.assertEqual(snapshot(db), before)

    def test_each_mode_left_by_a_word(self):
        for make, mode in ENTERED:
            with self.subTest(make.__name__, mode=mode):
                db = make()
                is_open, is_doomed, reason, levels, depth = standing(db)
                db.enter(mode)
                self.assertIsNone(db.leave("other"))
                if is_open and not is_doomed and mode in ("join", "must", "either"):
                    is_doomed, reason = True, "other"
                self.assertEqual(standing(db), (is_open, is_doomed, reason, levels, depth))

    def test_bad_modes(self):
        for make in STATES:
            for thing in NO_WORDS + ["joins", "doom", "JOIN", ["join"], Mode.ALL]:
                db = make()
                before = snapshot(db)
                with self.assertRaises(BadMode) as caught:
                    db.enter(thing)
                self.assertEqual(caught.exception.mode, thing)
                self.assertEqual(snapshot(db), before)

    def test_inner_in_inner(self):
        db = Database()
        for many in range(1, 6):
            db.enter("inner")
            self.assertEqual(standing(db), (True, False, None, many, many))
        for many in range(4, -1, -1):
            db.leave()
            self.assertEqual(standing(db), (many > 0, False, None, many, many))

    def test_a_mode_where_nothing_is_present_any_more(self):
        db = Database()
        db.enter("join")
        db.leave()
        with self.assertRaises(Missing):
            db.enter("must")
        db.enter("alone")
        self.assertTrue(db.is_open)

    def test_outside_of_all_blocks(self):
        self.assertEqual(standing(Database()), (False, False, None, 0, 0))


class LeaveTest(unittest.TestCase):
    """The blocks that end a level."""

    def opened(self, mode):
        db = Database()
        db.enter(mode)
        db["a"] = 1
        db["b"] = 2
        return db

    def added(self):
        db = within_one()
        db.enter("inner")
        db["a"] = 1
        return db

    def test_opened_left_well_is_committed(self):
        for mode in ("join", "inner", "apart", "alone"):
            db = self.opened(mode)
            self.assertEqual(fates_of(db), ["open", "open"])
            db.leave()
            self.assertEqual(fates_of(db), ["kept", "kept"])
            self.assertEqual(db.kept_values(), {"a": 1, "b": 2})
            self.assertEqual(standing(db), (False, False, None, 0, 0))

    def test_opened_left_by_a_word_is_undone(self):
        for mode in ("join", "inner", "apart", "alone"):
            for commits in (True, False):
                db = self.opened(mode)
                db.leave("late", commits=commits)
                self.assertEqual(fates_of(db), ["undone", "undone"])
                self.assertEqual(standing(db), (False, False, None, 0, 0))

    def test_commit_refused(self):
        for mode in ("join", "inner", "apart", "alone"):
            db = self.opened(mode)
            with self.assertRaises(Refused):
                db.leave(commits=False)
            self.assertEqual(fates_of(db), ["undone", "undone"])
            self.assertEqual(standing(db), (False, False, None, 0, 0))

    def test_doomed_left_well(self):
        for mode in ("join", "inner", "apart", "alone"):
            for commits in (True, False):
                db = self.opened(mode)
                db.doom("late")
                with self.assertRaises(Doomed) as caught:
                    db.leave(commits=commits)
                self.assertEqual(caught.exception.first, "late")
                self.assertEqual(fates_of(db), ["undone", "undone"])
                self.assertEqual(standing(db), (False, False, None, 0, 0))

    def test_doomed_left_by_a_word(self):
        db = self.opened("join")
        db.doom("late")
        self.assertIsNone(db.leave(error="other"))
        self.assertEqual(fates_of(db), ["undone", "undone"])

    def test_added_left_well(self):
        for commits in (True, False):
            db = self.added()
            db.leave(commits=commits)
            self.assertEqual(standing(db), (True, False, None, 1, 1))
            self.assertEqual(fates_of(db), ["open", "open"])
            self.assertEqual(db.held_records(), ["a", "x"])
            db.leave()
            self.assertEqual(fates_of(db), ["kept", "kept"])

    def test_added_left_well_belongs_to_the_level_below(self):
        db = self.added()
        db.leave()
        db.leave("late")
        self.assertEqual(fates_of(db), ["undone", "undone"])

    def test_added_left_by_a_word(self):
        db = self.added()
        db.leave("late")
        self.assertEqual(standing(db), (True, False, None, 1, 1))
        self.assertEqual(fates_of(db), ["open", "undone"])
        db.leave()
        self.assertEqual(fates_of(db), ["kept", "undone"])

    def test_added_doomed(self):
        for error in (None, "other"):
            db = self.added()
            db.doom("late")
            if error is None:
                with self.assertRaises(Doomed) as caught:
                    db.leave()
                self.assertEqual(caught.exception.first, "late")
            else:
                db.leave(error)
            self.assertEqual(standing(db), (True, False, None, 1, 1))
            self.assertEqual(fates_of(db), ["open", "undone"])
            db.leave()
            self.assertEqual(fates_of(db), ["kept", "undone"])

    def test_levels_are_undone_on_their_own(self):
        db = Database()
        for record in ("a", "b", "c"):
            db.enter("inner")
            db[record] = 1
        db.leave()
        db["d"] = 1
        db.leave("late")
        db["e"] = 1
        db.leave()
        self.assertEqual(list(db.fates()), [
            ("a", 1, "kept"), ("b", 1, "undone"), ("c", 1, "undone"),
            ("d", 1, "undone"), ("e", 1, "kept")])

    def test_joined_left_well_or_by_a_word(self):
        for mode in ("join", "must", "either"):
            db = within_one()
            db.enter(mode)
            db["a"] = 1
            db.leave(commits=False)
            self.assertEqual(standing(db), (True, False, None, 1, 1))
            self.assertEqual(fates_of(db), ["open", "open"])
            db.enter(mode)
            db.leave("late")
            self.assertEqual(standing(db), (True, True, "late", 1, 1))
            self.assertEqual(fates_of(db), ["open", "open"])
            db.enter(mode)
            db.leave("other")
            self.assertEqual(db.reason, "late")
            db.enter(mode)
            self.assertIsNone(db.leave())
            with self.assertRaises(Doomed):
                db.leave()
            self.assertEqual(fates_of(db), ["undone", "undone"])

    def test_joined_in_a_level_dooms_the_top_only(self):
        db = levelled()
        db.enter("join")
        db.leave("late")
        self.assertEqual(standing(db), (True, True, "late", 2, 2))
        db.leave("other")
        self.assertEqual(standing(db), (True, False, None, 1, 1))

    def test_blocks_without_effect(self):
        for mode in ("either", "never", "outside"):
            for error in (None, "late"):
                db = Database()
                db.enter(mode)
                db["a"] = 1
                db.leave(error, commits=False)
                self.assertEqual(fates_of(db), ["kept"])
                self.assertEqual(standing(db), (False, False, None, 0, 0))

    def test_suspended_is_present_again(self):
        for mode in ("apart", "outside"):
            for error in (None, "late"):
                for make in (within_one, doomed, levelled):
                    db = make()
                    before = standing(db)
                    db.enter(mode)
                    db["a"] = 1
                    db.leave(error)
                    self.assertEqual(standing(db), before)
                    self.assertEqual(db.held_records(), ["x"])
                    self.assertEqual(db.outer_records(), [])

    def test_apart_is_kept_in_an_undone_one(self):
        db = within_one()
        db.enter("apart")
        db["a"] = 1
        db.leave()
        db.leave("late")
        self.assertEqual(fates_of(db), ["undone", "kept"])

    def test_a_doom_within_apart_stays_there(self):
        db = parted()
        db.doom()
        with self.assertRaises(Doomed):
            db.leave()
        self.assertEqual(standing(db), (True, False, None, 1, 1))

    def test_no_block(self):
        db = Database()
        for error in [None, "late"] + NO_WORDS:
            with self.assertRaises(NoBlock):
                db.leave(error)
        db["a"] = 1
        before = snapshot(db)
        with self.assertRaises(NoBlock):
            db.leave(commits=False)
        self.assertEqual(snapshot(db), before)

    def test_bad_words(self):
        for make in STATES[1:]:
            for thing in NO_WORDS:
                if thing is None:
                    continue
                db = make()
                before = snapshot(db)
                with self.assertRaises(BadWord) as caught:
                    db.leave(thing, commits=False)
                self.assertEqual(caught.exception.word, thing)
                self.assertEqual(snapshot(db), before)

    def test_commits_is_by_name_only(self):
        db = Database()
        db.enter("join")
        with self.assertRaises(TypeError):
            db.leave(None, False)


class DoomTest(unittest.TestCase):
    def test_first_word(self):
        db = within_one()
        self.assertIsNone(db.doom())
        self.assertEqual(standing(db), (True, True, "doom", 1, 1))
        db.doom("late")
        self.assertEqual(db.reason, "doom")
        db = within_one()
        db.doom(first="late")
        db.doom()
        self.assertEqual(db.reason, "late")

    def test_without_a_transaction(self):
        for db in (free(), suspended()):
            before = snapshot(db)
            self.assertIsNone(db.doom("late"))
            self.assertEqual(snapshot(db), before)

    def test_the_top_level_only(self):
        db = levelled()
        db.doom("late")
        self.assertEqual(standing(db), (True, True, "late", 2, 2))
        db.leave("other")
        self.assertEqual(standing(db), (True, False, None, 1, 1))

    def test_a_suspended_one_is_not_doomed(self):
        db = suspended()
        db.doom()
        db.leave()
        self.assertFalse(db.is_doomed)

    def test_bad_words(self):
        for make in STATES:
            for thing in NO_WORDS:
                db = make()
                before = snapshot(db)
                with self.assertRaises(BadWord) as caught:
                    db.doom(thing)
                self.assertEqual(caught.exception.word, thing)
                self.assertEqual(snapshot(db), before)


class ManyTest(unittest.TestCase):
    def test_thousands_of_blocks(self):
        for mode in ("apart", "inner", "join"):
            db = Database()
            for _ in range(5000):
                db.enter(mode)
            self.assertEqual(db.depth, 5000)
            self.assertEqual(db.levels, 5000 if mode == "inner" else 1)
            db["a"] = 1
            for _ in range(5000):
                db.leave()
            self.assertEqual(fates_of(db), ["kept"])
            self.assertEqual(standing(db), (False, False, None, 0, 0))

    def test_two_databases_share_nothing(self):
        one, other = Database(), Database()
        one.enter("join")
        one["a"] = 1
        self.assertEqual(snapshot(other), snapshot(Database()))
        self.assertNotEqual(one, other)


class ExampleTest(unittest.TestCase):
    def test_of_the_document(self):
        db = Database()
        db.enter("join")
        db["a"] = 1
        db.enter("join")
        db.leave("late")
        self.assertEqual([db.is_doomed, db.reason, "a" in db], [True, "late", True])


class CommitTest(unittest.TestCase):
    def test_whether_leaving_well_is_to_commit(self):
        told = [(make.__name__, make().would_commit()) for make in STATES]
        self.assertEqual(told, [("free", False), ("within_one", True), ("doomed", False), ("levelled", False),
                                ("suspended", False), ("parted", True)])
        for make, mode in ENTERED:
            db = make()
            db.enter(mode)
            before = snapshot(db)
            opened = db.levels == 1 and mode in ("join", "inner", "apart", "alone") and make in (free, suspended)
            self.assertEqual(db.would_commit(), opened or mode == "apart", (make.__name__, mode))
            self.assertEqual(snapshot(db), before)


if __name__ == "__main__":
    unittest.main()
