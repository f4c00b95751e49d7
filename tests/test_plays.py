"""Plays: the moves, what they return, the errors, and what a play tells behind each move."""

import unittest

from innercommits.errors import BadRecords, NoCall
from innercommits.modes import Mode
from innercommits.plays import Play
from innercommits.texts import Library
from tests.helpers import NO_WORDS, library, play_told, told_error

SIMPLE = library("write a")
STRANGER = library("call g", "write a")
ASKING = {
    "write": (library("write a"), ["call f"], ("write", "a")),
    "commit": (library("block join", "  pass"), ["call f"], ("commit",)),
    "maybe": (library("maybe", "  pass"), ["call f"], ("maybe",)),
    "repeat": (library("repeat", "  pass"), ["call f"], ("repeat",)),
    "own commit": (library("pass"), ["enter join", "leave"], ("commit",)),
}
MOVES = (["yes", "no", "leave", "leave late", "write a", "write zzz", "doom", "call f", "call g", "return",
          "raise late"] + ["enter " + mode for mode in Mode.ALL])


def possible(lib, moves):
    """Those of MOVES that are possible behind these or are an error of the database."""
    found = []
    for move in MOVES:
        error = told_error(Play.of(lib, moves).move, move)
        if error is None or error[0] not in ("NotNow", "BadMove"):
            found.append(move)
    return found


class MomentTest(unittest.TestCase):
    ALWAYS = ["write a", "write zzz", "call f"] + ["enter " + mode for mode in Mode.ALL]

    def check(self, lib, moves, more, asked=("caller",), is_over=False, depth=0):
        play = Play.of(lib, moves)
        self.assertEqual([play.asked, play.is_over, play.depth, play.moves], [asked, is_over, depth, tuple(moves)])
        expected = more if asked != ("caller",) else self.ALWAYS + more
        self.assertEqual(sorted(possible(lib, moves)), sorted(expected), moves)

    def test_outside_of_all(self):
        self.check(SIMPLE, [], [], is_over=True)
        self.check(SIMPLE, ["write a"], [], is_over=True)
        self.check(SIMPLE, ["call f", "no"], [], is_over=True)

    def test_in_blocks_of_the_caller(self):
        for mode in ("join", "inner", "apart", "alone"):
            self.check(SIMPLE, ["enter " + mode], ["leave", "leave late", "doom"], depth=1)
        for mode in ("either", "never", "outside"):
            self.check(SIMPLE, ["enter " + mode], ["leave", "leave late"], depth=1)
        self.check(SIMPLE, ["enter join", "enter outside"], ["leave", "leave late"], depth=2)
        self.check(SIMPLE, ["enter join", "doom", "enter must"], ["leave", "leave late", "doom"], depth=2)
        self.check(SIMPLE, ["enter outside", "enter join", "leave late"], ["leave", "leave late"], depth=1)

    def test_where_something_is_asked(self):
        for lib, moves, asked in ASKING.values():
            self.check(lib, moves, ["yes", "no"], asked)
            self.check(lib, ["enter outside"] + moves, ["yes", "no"], asked)
        self.check(SIMPLE, ["enter join", "call f"], ["yes", "no"], ("write", "a"))

    def test_within_unknown_functions(self):
        self.check(STRANGER, ["call f"], ["return", "raise late"])
        self.check(STRANGER, ["enter join", "call f"], ["return", "raise late", "doom"])
        self.check(STRANGER, ["enter join", "call f", "enter outside"], ["leave", "leave late"], depth=1)
        self.check(STRANGER, ["call f", "enter join", "enter join"], ["leave", "leave late", "doom"], depth=2)
        self.check(STRANGER, ["call f", "enter join", "call f"], ["return", "raise late", "doom"])
        self.check(STRANGER, ["call f", "enter join", "leave"], ["yes", "no"], ("commit",))
        self.check(STRANGER, ["call f", "enter join", "leave", "no"], ["return", "raise late"])
        self.check(STRANGER, ["call f", "call f", "return", "no"], ["return", "raise late"])
        self.check(STRANGER, ["call f", "return"], ["yes", "no"], ("write", "a"))
        self.check(STRANGER, ["enter join", "call f", "raise late"], ["leave", "leave late", "doom"], depth=1)

    def test_blocks_of_the_library_are_not_the_callers(self):
        lib = library("block join", "  block inner", "    call g")
        self.check(lib, ["call f"], ["return", "raise late", "doom"])
        self.check(lib, ["call f", "enter join"], ["leave", "leave late", "doom"], depth=1)

    def test_every_function_of_the_library_can_be_called(self):
        lib = Library("function f\n  pass\nfunction g\n  call h\nfunction call\n  pass")
        for name in ("f", "g", "call"):
            play = Play(lib)
            self.assertEqual(play.move("call " + name), "")
            self.assertEqual(play.call_names(), [name])
        self.assertEqual(told_error(Play(lib).move, "call h"), ("NotNow", "call h"))
        self.assertEqual(told_error(Play(lib).move, "call zzz"), ("NotNow", "call zzz"))


class ReturnTest(unittest.TestCase):
    def returned(self, lib, moves, **more):
        play = Play(lib, **more)
        return [play.move(move) for move in moves]

    def test_own_moves_return_nothing(self):
        self.assertEqual(self.returned(SIMPLE, ["enter join", "write a", "doom", "enter join", "leave late", "leave late"]),
                         [""] * 6)
        self.assertEqual(self.returned(SIMPLE, ["enter join", "leave", "yes"]), [""] * 3)
        self.assertEqual(self.returned(SIMPLE, ["enter join", "doom", "doom", "leave late"]), [""] * 4)

    def test_a_leave_that_is_the_error_doomed(self):
        self.assertEqual(self.returned(SIMPLE, ["enter join", "doom", "leave"]), ["", "", "doomed"])
        self.assertEqual(self.returned(SIMPLE, ["enter join", "enter inner", "doom", "leave", "leave", "yes"]),
                         ["", "", "", "doomed", "", ""])
        self.assertEqual(self.returned(SIMPLE, ["enter join", "doom", "enter join", "leave", "leave"]),
                         ["", "", "", "", "doomed"])

    def test_a_commit_of_the_callers_own(self):
        for end, told, fate in (("yes", "", "kept"), ("no", "refused", "undone")):
            play = Play.of(SIMPLE, ["enter join", "write b", "leave"])
            self.assertEqual([play.asked, play.is_over, play.depth], [("commit",), False, 0])
            self.assertEqual([play.move(end), play.is_over, play.asked], [told, True, ("caller",)])
            self.assertEqual(list(play.writes()), [(None, "b", fate)])

    def test_a_call_that_ends_by_an_error(self):
        self.assertEqual(self.returned(library("raise late"), ["call f"]), ["late"])
        self.assertEqual(self.returned(SIMPLE, ["call f", "no", "call f", "yes"]), ["", "refused", "", ""])
        lib = library("maybe", "  raise late", "block alone", "  write a")
        self.assertEqual(self.returned(lib, ["call f", "yes"]), ["", "late"])
        self.assertEqual(self.returned(lib, ["enter join", "call f", "no"]), ["", "", "present"])
        self.assertEqual(self.returned(lib, ["call f", "no", "yes", "no"]), ["", "", "", "refused"])
        self.assertEqual(self.returned(library("block must", "  pass"), ["call f"]), ["missing"])

    def test_within_unknown_functions(self):
        self.assertEqual(self.returned(STRANGER, ["call f", "raise odd"]), ["", "odd"])
        self.assertEqual(self.returned(STRANGER, ["call f", "return", "no"]), ["", "", "refused"])
        self.assertEqual(self.returned(STRANGER, ["call f", "call f", "raise odd", "return", "yes"]),
                         ["", "", "odd", "", ""])
        lib = library("try", "  call g", "except odd", "  raise even")
        self.assertEqual(self.returned(lib, ["call f", "raise odd"]), ["", "even"])
        self.assertEqual(self.returned(lib, ["call f", "return"]), ["", ""])
        self.assertEqual(self.returned(lib, ["call f", "raise refused"]), ["", "refused"])

    def test_an_error_is_told_with_its_move_alone(self):
        lib = library("maybe", "  raise late")
        self.assertEqual(self.returned(lib, ["call f", "yes", "call f", "no", "call f"]), ["", "late", "", "", ""])
        self.assertEqual(self.returned(lib, ["enter join", "doom", "leave", "call f", "no"]), ["", "", "doomed", "", ""])
        self.assertEqual(self.returned(lib, ["enter join", "leave", "no", "enter join", "leave", "yes"]),
                         ["", "", "refused", "", "", ""])


class ErrorTest(unittest.TestCase):
    def check_nothing_changes(self, play, move, error):
        before = play_told(play)
        self.assertEqual(told_error(play.move, move), error)
        self.assertEqual(play_told(play), before)

    def test_bad_moves(self):
        things = NO_WORDS + [
            "maybe", "enter", "enter a", "enter joined", "enter JOIN", "enter join join", "enter  join", " enter join",
            "enter join ", "leave ", "leave A", "leave a b", "leave 1", "leave abcdefghi", "write", "write A", "write a b",
            "write abcdefghi", "doom late", "doomed", "call", "call F", "call f f", "return late", "raise", "raise E",
            "raise e e", "yes yes", "Yes", "yes\n", "no ", "\nno", "yes no", ["yes"], ("call", "f"), ["call f"], b"yes",
            "enter\tjoin", "pass", "maybe join", "doom join", "yes join", "block join", "call f\n", "commit", "write a\u00e4",
        ]
        for lib, moves, _ in ASKING.values():
            play = Play.of(lib, moves)
            for thing in things:
                self.check_nothing_changes(play, thing, ("BadMove", thing))
        for moves in ([], ["enter join"], ["call f"]):
            play = Play.of(STRANGER, moves)
            for thing in things:
                self.check_nothing_changes(play, thing, ("BadMove", thing))
        for thing in (True, 1, False, 0):
            with self.assertRaises(ValueError) as caught:
                Play(SIMPLE).move(thing)
            self.assertIs(caught.exception.thing, thing)

    def test_moves_of_other_moments_change_nothing(self):
        for lib, moves, _ in ASKING.values():
            play = Play.of(lib, moves)
            for move in MOVES[2:]:
                self.check_nothing_changes(play, move, ("NotNow", move))
        for moves in ([], ["write a"], ["enter outside"], ["enter join"], ["call f"], ["call f", "enter join"]):
            play = Play.of(STRANGER, moves)
            fit = possible(STRANGER, moves)
            for move in MOVES:
                if move not in fit:
                    self.check_nothing_changes(play, move, ("NotNow", move))

    def test_errors_of_the_database_as_moves(self):
        rows = [
            ([], "enter must", ("Missing", "must")),
            (["enter join"], "enter never", ("Present", "never")),
            (["enter join"], "enter alone", ("Present", "alone")),
            (["enter join", "doom"], "enter inner", ("Doomed", "doom")),
            (["enter join", "doom"], "write a", ("Doomed", "doom")),
            (["enter join", "enter join", "leave late"], "write a", ("Doomed", "late")),
            (["enter join", "enter join", "leave late"], "enter inner", ("Doomed", "late")),
            (["enter join", "write z", "enter apart"], "write z", ("Waits", "z")),
            (["enter join", "write z", "enter outside"], "write z", ("Waits", "z")),
            (["enter join", "write z", "enter apart", "doom"], "write z", ("Doomed", "doom")),
            (["enter join", "write z", "enter outside"], "enter must", ("Missing", "must")),
            (["enter join", "call f"], "enter alone", ("Present", "alone")),
        ]
        for strict in (False, True):
            for moves, move, error in rows:
                self.check_nothing_changes(Play.of(STRANGER, moves, strict=strict), move, error)

    def test_a_callers_write_that_waits_dooms_nothing(self):
        play = Play.of(SIMPLE, ["enter join", "write z", "enter apart"], strict=True)
        self.assertEqual(told_error(play.move, "write z"), ("Waits", "z"))
        self.assertEqual([play.move("write b"), play.move("leave"), play.move("yes")], ["", "", ""])
        self.assertEqual(play.kept_by(None), ("b",))
        self.assertEqual(list(play.waits()), [])

    def test_not_now_comes_ahead_of_the_database(self):
        play = Play.of(SIMPLE, ["call f"])
        self.check_nothing_changes(play, "enter must", ("NotNow", "enter must"))

    def test_calls_that_are_not_there(self):
        play = Play.of(STRANGER, ["call f", "call f", "raise late"])
        for number in (2, 3, -1, -2, 10 ** 20):
            for deed in (play.is_ended, play.case_of, play.face_of, play.length_of, play.kept_by):
                with self.assertRaises(NoCall) as caught:
                    deed(number)
                self.assertEqual(caught.exception.number, number)
        for deed in (play.face_of, play.length_of):
            self.assertEqual(told_error(deed, 0), ("NoCall", 0))
        self.assertEqual([play.is_ended(0), play.is_ended(1)], [False, True])
        self.assertEqual([play.case_of(0), play.kept_by(0)], [("none", (), ()), ()])
        for number in (0, -1):
            self.assertEqual(told_error(Play(SIMPLE).is_ended, number), ("NoCall", number))
        self.assertEqual(Play(SIMPLE).kept_by(None), ())


class RecordsTest(unittest.TestCase):
    def test_the_first_record_that_is_not_looked_at(self):
        lib = library("write b", "write a", "write c")
        for records, record in (([], "a"), (["a"], "b"), (["b", "c"], "a"), (["z", "b", "a"], "c")):
            with self.assertRaises(BadRecords) as caught:
                Play(lib, records=records)
            self.assertEqual(caught.exception.record, record)
            self.assertEqual(told_error(lambda: Play.of(lib, ["wrong"], records=records)), ("BadRecords", record))

    def test_the_order_does_not_matter(self):
        lib = library("write b", "write a")
        moves = ["enter join", "write c", "write z", "enter apart", "write d", "call f", "yes", "yes"]
        told = []
        for records in (["a", "b", "c", "d"], ["d", "b", "c", "a"]):
            play = Play.of(lib, moves, records=records)
            told.append(play_told(play))
            self.assertEqual(play.case_of(0), ("open", ("c",), ("d",)))
            self.assertEqual(play.face_of(0), ("", False, ("a", "b", "d"), (), ("a", "b")))
        self.assertEqual(told[0], told[1])
        self.assertEqual(Play.of(lib, moves).case_of(0), ("open", (), ()))
        self.assertEqual(Play.of(lib, moves).face_of(0), ("", False, ("a", "b"), (), ("a", "b")))

    def test_a_list_that_is_changed_afterwards(self):
        records = ["c", "a"]
        play = Play(SIMPLE, records=records)
        records.append("b")
        records.remove("c")
        for move in ("enter join", "write b", "write c", "call f"):
            play.move(move)
        self.assertEqual(play.case_of(0), ("open", (), ("c",)))
        records = ["c", "a"]
        Play.of(SIMPLE, ["call f", "yes"], records=records)
        self.assertEqual(records, ["c", "a"])


class OfTest(unittest.TestCase):
    def test_lists_and_tuples(self):
        moves = ["enter join", "call f", "yes", "leave", "yes"]
        plays = [Play.of(SIMPLE, moves), Play.of(SIMPLE, tuple(moves)), Play(SIMPLE)]
        for move in moves:
            plays[2].move(move)
        self.assertEqual(play_told(plays[0]), play_told(plays[1]))
        self.assertEqual(play_told(plays[0]), play_told(plays[2]))
        self.assertEqual(plays[0].moves, tuple(moves))
        self.assertEqual(moves, ["enter join", "call f", "yes", "leave", "yes"])

    def test_moves_that_are_changed_afterwards(self):
        moves = ["enter join", "write a"]
        play = Play.of(SIMPLE, moves)
        moves.append("leave")
        moves[0] = "enter apart"
        self.assertEqual(play.moves, ("enter join", "write a"))

    def test_the_first_wrong_move(self):
        rows = [
            (["call f", "leave", "maybe"], ("NotNow", "leave")), (["call f", "maybe", "leave"], ("BadMove", "maybe")),
            (["enter must", 7], ("Missing", "must")), (["call f", "yes", 7], ("BadMove", 7)),
            (["enter join", "enter alone", "no"], ("Present", "alone")),
            (["enter join", "doom", "write a"], ("Doomed", "doom")),
            (["enter join", "write a", "enter apart", "write a"], ("Waits", "a")),
        ]
        for moves, error in rows:
            for sequence in (moves, tuple(moves)):
                self.assertEqual(told_error(Play.of, SIMPLE, sequence), error)

    def test_strict_and_records_by_name(self):
        play = Play.of(moves=["enter join", "call f", "no"], library=SIMPLE, records=["b", "a"], strict=True)
        self.assertEqual(play.face_of(0), ("refused", True, (), (), ()))
        play = Play(library=SIMPLE, strict=True)
        self.assertEqual([play.move(move="enter join"), play.move("call f"), play.move("no")], ["", "", "refused"])
        self.assertEqual(play.face_of(number=0), ("refused", True, (), (), ()))


class ShareTest(unittest.TestCase):
    def test_two_plays_by_turns(self):
        lib = Library("function f\n  block join\n    call g\n    write a\n  write b")
        one, other = Play(lib), Play(lib, strict=True)
        alone = Play(lib)
        moves = ["enter join", "call f", "return", "yes", "no", "leave", "yes"]
        others = ["call f", "raise late", "call f", "return", "no", "call f", "return"]
        for move, another in zip(moves, others):
            one.move(move)
            other.move(another)
            alone.move(move)
            self.assertEqual(play_told(one), play_told(alone))
        self.assertEqual(play_told(other), play_told(Play.of(lib, others, strict=True)))

    def test_what_was_returned_stays_as_it_was(self):
        play = Play.of(SIMPLE, ["enter join", "call f", "yes"])
        told = play_told(play)
        names, moves = play.call_names(), play.moves
        names.append("x")
        self.assertEqual(play.call_names(), ["f"])
        for move in ("leave", "yes", "call f", "no"):
            play.move(move)
        self.assertEqual(moves, ("enter join", "call f", "yes"))
        self.assertEqual(told[0], moves)
        self.assertEqual(told[6], [(0, "a", "open")])
        self.assertEqual(list(play.writes()), [(0, "a", "kept")])
        self.assertEqual(play.face_of(0), ("", False, ("a",), (), ("a",)))

    def test_an_object_is_equal_to_itself_alone(self):
        play = Play(SIMPLE)
        self.assertTrue(play == play)
        for thing in (Play(SIMPLE), SIMPLE, (), None, 0, False):
            self.assertFalse(play == thing)


if __name__ == "__main__":
    unittest.main()
