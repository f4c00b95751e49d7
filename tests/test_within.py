import unittest

from innercommits.database import Database
from innercommits.errors import BadMode, BadWord, Doomed, Failed, Missing, NoBlock, Present
from innercommits.errors import Refused, Waits
from innercommits.modes import Mode
from tests.helpers import NO_WORDS, STATES, doomed, fates_of, levelled, parted, snapshot
from tests.helpers import standing, suspended, within_one

# One of each of the six errors, raised by a deed itself.
SIX = [Doomed("early"), Missing("must"), Present("alone"), Refused(), Waits("a"), Failed("late")]


def thrower(error):
    """A deed that writes, where it can, and raises the error."""
    def deed(db):
        if not db.is_doomed:
            db["b"] = 2
        raise error
    return deed


def nothing(db):
    return None


def failing_of(call):
    """The error that the call raises, None if it raises none."""
    try:
        call()
    except ValueError as error:
        return error
    return None


class ReturnTest(unittest.TestCase):
    def test_what_the_deed_returned(self):
        for told in (None, 7, "late", ["a"], ("a", 1)):
            self.assertIs(Database().within("join", lambda _: told), told)

    def test_the_deed_gets_the_database_itself(self):
        db = Database()
        self.assertIs(db.within(mode="join", deed=lambda held: held, keep=("late",), commits=True), db)

    def test_the_block_is_there_in_the_deed(self):
        db = Database()
        self.assertEqual(db.within("join", standing), (True, False, None, 1, 1))
        self.assertEqual(standing(db), (False, False, None, 0, 0))
        self.assertEqual(within_one().within("inner", standing), (True, False, None, 2, 2))

    def test_left_well(self):
        db = Database()

        def deed(held):
            held["a"] = 1
            self.assertEqual(fates_of(held), ["open"])
        db.within("join", deed)
        self.assertEqual(db.kept_values(), {"a": 1})

    def test_the_deed_is_not_called_where_it_cannot_be_entered(self):
        called = []
        for make in STATES:
            for mode in Mode.ALL:
                plain = make()
                expected = failing_of(lambda: plain.enter(mode))
                if expected is None:
                    continue
                db = make()
                before = snapshot(db)
                error = failing_of(lambda: db.within(mode, called.append))
                self.assertEqual(error.__class__, expected.__class__)
                self.assertEqual(vars(error), vars(expected))
                self.assertEqual(snapshot(db), before)
        self.assertEqual(called, [])

    def test_bad_modes(self):
        called = []
        for make in STATES:
            for thing in NO_WORDS + ["joins"]:
                db = make()
                before = snapshot(db)
                with self.assertRaises(BadMode) as caught:
                    db.within(thing, called.append)
                self.assertEqual(caught.exception.mode, thing)
                self.assertEqual(snapshot(db), before)
        self.assertEqual(called, [])

    def test_leaving_raises(self):
        db = Database()
        with self.assertRaises(Doomed) as caught:
            db.within("join", lambda held: held.doom("late"))
        self.assertEqual([caught.exception.first, db.depth], ["late", 0])
        with self.assertRaises(Refused):
            db.within("join", lambda held: held.enter("join") or held.leave(), commits=False)
        self.assertEqual(standing(db), (False, False, None, 0, 0))

    def test_joined_returns_although_it_is_doomed(self):
        db = doomed()
        self.assertEqual(db.within("join", lambda _: 7), 7)
        self.assertEqual(standing(db), (True, True, "late", 1, 1))

    def test_keep_and_commits_are_by_name_only(self):
        with self.assertRaises(TypeError):
            Database().within("join", nothing, ("late",))


class RaiseTest(unittest.TestCase):
    def test_each_error_in_each_block_as_leaving_it_by_hand(self):
        for make in STATES:
            for mode in Mode.ALL:
                if failing_of(lambda: make().enter(mode)) is not None:
                    continue
                for error in SIX:
                    for keep in ((), ("other",), ("other", error.word), (error.word,)):
                        for commits in (True, False):
                            with self.subTest(make.__name__, mode=mode, error=error, keep=keep):
                                self.compare(make, mode, error, keep, commits)

    def compare(self, make, mode, error, keep, commits):
        plain = make()
        plain.enter(mode)
        failing_of(lambda: thrower(error)(plain))
        word = None if error.word in keep else error.word
        leaving = failing_of(lambda: plain.leave(word, commits=commits))
        db = make()
        raised = failing_of(lambda: db.within(mode, thrower(error), keep=keep, commits=commits))
        if isinstance(leaving, Refused):
            self.assertIsInstance(raised, Refused)
            self.assertIsNot(raised, error)
        else:
            self.assertIs(raised, error)
        self.assertEqual(snapshot(db), snapshot(plain))

    def test_kept_and_committed(self):
        for error in SIX:
            db = Database()
            self.assertIs(failing_of(lambda: db.within("join", thrower(error), keep=(error.word,))), error)
            self.assertEqual(db.kept_values(), {"b": 2})

    def test_kept_and_refused(self):
        for error in SIX:
            db = Database()
            with self.assertRaises(Refused) as caught:
                db.within("join", thrower(error), keep=(error.word,), commits=False)
            self.assertIsNot(caught.exception, error)
            self.assertEqual([fates_of(db), db.depth], [["undone"], 0])

    def test_not_kept(self):
        for error in SIX:
            for commits in (True, False):
                db = Database()
                raised = failing_of(lambda: db.within("join", thrower(error), commits=commits))
                self.assertIs(raised, error)
                self.assertEqual([fates_of(db), db.depth], [["undone"], 0])

    def test_kept_in_a_doomed_level(self):
        error = Failed("late")

        def deed(held):
            held["a"] = 1
            held.doom("early")
            raise error
        for commits in (True, False):
            db = Database()
            raised = failing_of(lambda: db.within("join", deed, keep=("late",), commits=commits))
            self.assertIs(raised, error)
            self.assertEqual([fates_of(db), db.depth], [["undone"], 0])

    def test_joined_by_a_word(self):
        db = within_one()
        failing_of(lambda: db.within("join", thrower(Failed("early"))))
        self.assertEqual(standing(db), (True, True, "early", 1, 1))
        db = within_one()
        failing_of(lambda: db.within("join", thrower(Failed("early")), keep=("early",)))
        self.assertEqual(standing(db), (True, False, None, 1, 1))

    def test_errors_of_the_database_in_a_deed(self):
        deeds = [
            (lambda db: db.enter("alone"), Present, "present"),
            (lambda db: (db.enter("outside"), db.enter("must")), Missing, "missing"),
            (lambda db: (db.doom(), db.enter("inner")), Doomed, "doomed"),
            (lambda db: (db.doom(), db.__setitem__("a", 1)), Doomed, "doomed"),
            (lambda db: (db.enter("outside"), db.__setitem__("x", 1)), Waits, "waits"),
            (lambda db: (db.enter("apart"), db.leave(commits=False)), Refused, "refused"),
            (lambda db: db.within("never", nothing), Present, "present"),
            (lambda db: db.within("apart", nothing, commits=False), Refused, "refused"),
        ]
        for deed, error, word in deeds:
            db = within_one()
            with self.assertRaises(error):
                db.within("inner", deed)
            self.assertEqual(standing(db), (True, False, None, 1, 1))
            db = within_one()
            with self.assertRaises(error):
                db.within("join", deed)
            self.assertEqual(db.is_doomed, True)
            self.assertEqual(db.depth, 1)
            self.assertIn(db.reason, (word, "doom"))
            self.assertEqual(fates_of(db), ["open"])

    def test_the_deed_may_catch(self):
        db = within_one()

        def deed(held):
            with self.assertRaises(Present):
                held.within("never", nothing)
            with self.assertRaises(BadWord):
                held["1"] = 1
            return 7
        self.assertEqual(db.within("join", deed), 7)
        self.assertFalse(db.is_doomed)

    def test_an_error_of_another_database(self):
        one, other = within_one(), doomed()
        with self.assertRaises(Doomed) as caught:
            one.within("join", lambda _: other.enter("inner"))
        self.assertEqual([caught.exception.first, one.reason, other.depth], ["late", "doomed", 1])


class UnleftTest(unittest.TestCase):
    """Blocks that the deed entered and did not leave."""

    def enterer(self, modes, error=None):
        def deed(db):
            for at, mode in enumerate(modes):
                db.enter(mode)
                if not db.is_doomed:
                    db["abc"[at]] = 1
            if error is not None:
                raise error
            return 7
        return deed

    def test_with_an_error(self):
        for modes in (["join"], ["inner"], ["apart"], ["outside"], ["apart", "join"], ["inner", "outside", "join"]):
            for keep in ((), ("late",), ("unleft",)):
                error = Failed("late")
                plain = within_one()
                plain.enter("inner")
                self.enterer(modes)(plain)
                for _ in modes:
                    plain.leave("late")
                word = None if keep == ("late",) else "late"
                failing_of(lambda: plain.leave(word))
                db = within_one()
                raised = failing_of(lambda: db.within("inner", self.enterer(modes, error), keep=keep))
                self.assertIs(raised, error)
                self.assertEqual(snapshot(db), snapshot(plain))

    def test_without_an_error(self):
        for modes in (["join"], ["inner"], ["apart"], ["outside"], ["apart", "join"]):
            db = within_one()
            with self.assertRaises(Failed) as caught:
                db.within("inner", self.enterer(modes))
            self.assertEqual(caught.exception.word, "unleft")
            self.assertEqual(standing(db), (True, False, None, 1, 1))
            kept = ["kept"] if modes == ["outside"] else ["undone"]
            self.assertEqual(fates_of(db), ["open"] + kept + ["undone"] * (len(modes) - 1))

    def test_unleft_dooms_where_it_joins(self):
        db = within_one()
        with self.assertRaises(Failed):
            db.within("join", self.enterer(["inner"]))
        self.assertEqual(standing(db), (True, True, "unleft", 1, 1))
        db = within_one()
        with self.assertRaises(Failed):
            db.within("join", self.enterer(["join"]), keep=("unleft",))
        self.assertEqual(standing(db), (True, True, "unleft", 1, 1))

    def test_unleft_in_keep(self):
        def deed(db):
            db["a"] = 1
            db.enter("apart")
            db["b"] = 2
        db = Database()
        with self.assertRaises(Failed) as caught:
            db.within("join", deed, keep=("late", "unleft"))
        self.assertEqual(caught.exception.word, "unleft")
        self.assertEqual(list(db.fates()), [("a", 1, "kept"), ("b", 2, "undone")])
        db = Database()
        with self.assertRaises(Refused):
            db.within("join", deed, keep=("unleft",), commits=False)
        self.assertEqual(fates_of(db), ["undone", "undone"])

    def test_of_a_deed_that_left_some(self):
        def deed(db):
            db.enter("apart")
            db.enter("inner")
            db["a"] = 1
            db.leave()
        db = Database()
        with self.assertRaises(Failed):
            db.within("join", deed)
        self.assertEqual([fates_of(db), db.depth], [["undone"], 0])


class NoBlockTest(unittest.TestCase):
    def check_no_block(self, db):
        before = snapshot(db)
        for error in (None, "late", "Late", 7):
            with self.assertRaises(NoBlock):
                db.leave(error)
        with self.assertRaises(NoBlock):
            db.leave(commits=False)
        self.assertEqual(snapshot(db), before)

    def test_blocks_before_the_deed(self):
        for make in STATES:
            for mode in ("apart", "outside"):
                db = make()
                depth = db.depth
                db.within(mode, self.check_no_block)
                self.assertEqual(db.depth, depth)

    def test_behind_blocks_of_the_deed(self):
        def deed(db):
            for mode in ("join", "apart"):
                db.enter(mode)
            for _ in range(2):
                db.leave()
            self.check_no_block(db)
        for make in (within_one, levelled, suspended, parted):
            make().within("join", deed)

    def test_behind_a_within_in_the_deed(self):
        def deed(db):
            db.enter("join")
            db.within("join", self.check_no_block)
            with self.assertRaises(Failed):
                db.within("apart", lambda held: held.enter("join"))
            with self.assertRaises(Present):
                db.within("never", nothing)
            with self.assertRaises(BadMode):
                db.within("joins", nothing)
            db.leave()
            self.check_no_block(db)
        db = within_one()
        db.within("inner", deed)
        self.assertEqual(standing(db), (True, False, None, 1, 1))

    def test_blocks_can_be_left_again_behind_it(self):
        for deed in (nothing, thrower(Failed("late")), lambda held: held.enter("join")):
            db = within_one()
            failing_of(lambda: db.within("inner", deed))
            db.leave()
            self.assertEqual(db.depth, 0)
            self.check_no_block(db)

    def test_a_swallowed_no_block_changes_nothing(self):
        db = within_one()
        db.within("inner", self.check_no_block)
        db.leave()
        self.assertEqual(fates_of(db), ["kept"])


class NestedTest(unittest.TestCase):
    def nest(self, mode, many, last, **more):
        """A deed that calls within so many times, the last one with the deed last."""
        if many == 0:
            return last
        return lambda db: db.within(mode, self.nest(mode, many - 1, last, **more), **more)

    def test_sixty_deep(self):
        for mode in ("join", "inner", "apart", "must", "either", "outside"):
            db = within_one() if mode == "must" else Database()
            before = db.depth
            depth = self.nest(mode, 60, lambda held: held.depth)(db)
            self.assertEqual([depth, db.depth], [before + 60, before])

    def test_an_error_from_sixty_deep(self):
        error = Failed("late")
        for mode in ("join", "inner", "apart"):
            for keep, fates in (((), ["undone"]), (("late",), ["kept"])):
                db = Database()
                self.assertIs(failing_of(lambda: self.nest(mode, 60, thrower(error), keep=keep)(db)), error)
                self.assertEqual([fates_of(db), db.depth], [fates, 0])

    def test_refused_from_sixty_deep(self):
        db = Database()
        with self.assertRaises(Refused):
            self.nest("apart", 60, nothing, commits=False)(db)
        self.assertEqual(standing(db), (False, False, None, 0, 0))

    def test_an_inner_level_is_undone_and_the_outer_one_is_kept(self):
        def deed(db):
            db["a"] = 1
            with self.assertRaises(Failed):
                db.within("inner", thrower(Failed("late")))
            db["c"] = 3
        db = Database()
        db.within("join", deed)
        self.assertEqual(list(db.fates()), [("a", 1, "kept"), ("b", 2, "undone"), ("c", 3, "kept")])


if __name__ == "__main__":
    unittest.main()
