"""Calls, unknown functions, cases, faces, lengths and to which call a write belongs: 18 to 26, 32."""

import time
import unittest

from innercommits.plays import Play
from innercommits.texts import Library
from tests.helpers import library, play_told, told_error

STRANGER = Library("function f\n  block join keep late\n    write a\n    call g\n    write b")


class CaseTest(unittest.TestCase):
    def case(self, *before, records=("a", "b", "s", "h"), number=-1, lib=STRANGER):
        play = Play.of(lib, [*before, "call f"], records=list(records))
        return play.case_of(len(play.call_names()) + number)

    def test_states(self):
        self.assertEqual(self.case(), ("none", (), ()))
        self.assertEqual(self.case("enter either"), ("none", (), ()))
        self.assertEqual(self.case("enter join"), ("open", (), ()))
        self.assertEqual(self.case("enter join", "doom"), ("doomed", (), ()))
        self.assertEqual(self.case("enter join", "doom", "enter apart"), ("open", (), ()))
        self.assertEqual(self.case("enter join", "doom", "enter outside"), ("none", (), ()))
        self.assertEqual(self.case("enter join", "enter inner", "doom"), ("doomed", (), ()))
        self.assertEqual(self.case("enter join", "enter inner", "doom", "leave"), ("open", (), ()))
        self.assertEqual(self.case("enter join", "enter join", "leave late"), ("doomed", (), ()))

    def test_what_is_held(self):
        self.assertEqual(self.case("write h"), ("none", (), ()))
        self.assertEqual(self.case("enter join", "write s", "write h", "write a"), ("open", (), ("a", "h", "s")))
        self.assertEqual(self.case("enter join", "write h", "doom"), ("doomed", (), ("h",)))
        self.assertEqual(self.case("enter join", "write b", "enter inner", "write a"), ("open", (), ("a", "b")))
        self.assertEqual(self.case("enter join", "write b", "enter inner", "write a", "leave late"), ("open", (), ("b",)))
        self.assertEqual(self.case("enter join", "write a", "leave", "yes", "enter join"), ("open", (), ()))
        self.assertEqual(self.case("enter join", "write s", "enter apart", "write h"), ("open", ("s",), ("h",)))
        self.assertEqual(self.case("enter join", "write s", "enter apart", "write h", "doom"), ("doomed", ("s",), ("h",)))
        self.assertEqual(self.case("enter join", "write s", "enter outside"), ("none", ("s",), ()))
        self.assertEqual(self.case("enter join", "write s", "enter apart", "write a", "enter apart", "write b",
                                   "enter outside"), ("none", ("a", "b", "s"), ()))
        self.assertEqual(self.case("enter join", "write a", "write a", "write z"), ("open", (), ("a",)))

    def test_looked_at_records_alone(self):
        before = ("enter join", "write a", "write h", "enter apart", "write b", "write s")
        self.assertEqual(self.case(*before, records=("b", "a")), ("open", ("a",), ("b",)))
        self.assertEqual(self.case(*before, records=("s", "b", "a")), ("open", ("a",), ("b", "s")))
        self.assertEqual(Play.of(STRANGER, [*before, "call f"]).case_of(0), ("open", ("a",), ("b",)))

    def test_the_moment_when_the_call_begins(self):
        play = Play.of(STRANGER, ["enter join", "call f", "yes", "doom", "call f"])
        self.assertEqual([play.case_of(0), play.case_of(1)], [("open", (), ()), ("doomed", (), ("a",))])
        for move in ("return", "leave", "write a", "call f", "no"):
            play.move(move)
        self.assertEqual([play.case_of(number) for number in range(3)],
                         [("open", (), ()), ("doomed", (), ("a",)), ("none", (), ())])


class FaceTest(unittest.TestCase):
    def face(self, lib, *moves, **more):
        return Play.of(lib, moves, **more).face_of(0)

    def test_words_that_the_library_does_not_mention(self):
        lib = library("call g", "raise own")
        for word, told in (("odd", "?"), ("own", "own"), ("refused", "refused"), ("waits", "waits"), ("g", "?"),
                           ("doomed", "doomed"), ("call", "?"), ("missing", "missing"), ("present", "present")):
            play = Play.of(lib, ["call f"])
            self.assertEqual(play.move("raise " + word), word)
            self.assertEqual(play.face_of(0), (told, False, (), (), ()))
        self.assertEqual(self.face(library("try", "  call g", "except odd", "  call h"), "call f", "raise odd",
                                   "raise odd")[0], "odd")
        self.assertEqual(self.face(library("block join keep odd", "  call g"), "call f", "raise odd", "yes")[0], "odd")

    def test_the_errors_of_a_library_are_told_by_each_of_its_functions(self):
        lib = Library("function f\n  call h\nfunction g\n  raise late")
        self.assertEqual(self.face(lib, "call f", "raise late")[0], "late")

    def test_doomed_held_kept_and_pending(self):
        lib = library("write a", "block apart", "  write b", "maybe", "  doom")
        self.assertEqual(self.face(lib, "call f", "yes", "yes", "yes", "no"), ("", False, (), ("a", "b"), ()))
        self.assertEqual(self.face(lib, "enter join", "call f", "yes", "yes", "yes", "no"),
                         ("", False, ("a",), ("b",), ("a",)))
        self.assertEqual(self.face(lib, "enter join", "call f", "yes", "yes", "yes", "yes"),
                         ("", True, ("a",), ("b",), ()))
        self.assertEqual(self.face(lib, "enter join", "call f", "yes", "yes", "no"),
                         ("refused", False, ("a",), (), ("a",)))
        self.assertEqual(self.face(lib, "enter outside", "call f", "no"), ("refused", False, (), (), ()))

    def test_kept_ones_are_not_pending_as_well(self):
        lib = library("block apart", "  write a", "write a")
        self.assertEqual(self.face(lib, "enter join", "call f", "yes", "yes", "yes"), ("", False, ("a",), ("a",), ()))
        self.assertEqual(self.face(lib, "enter join", "call f", "yes", "no"), ("refused", False, (), (), ()))

    def test_writes_of_the_caller_are_held_but_not_pending(self):
        lib = library("write a", "call g")
        self.assertEqual(self.face(lib, "enter join", "write b", "call f", "yes", "write c", "return",
                                   records=["c", "b", "a"]), ("", False, ("a", "b", "c"), (), ("a",)))
        self.assertEqual(self.face(lib, "enter join", "write a", "call f", "no"), ("refused", False, ("a",), (), ()))

    def test_the_moment_when_the_call_has_ended(self):
        play = Play.of(library("write a"), ["enter join", "call f", "yes"])
        face = ("", False, ("a",), (), ("a",))
        self.assertEqual([play.face_of(0), play.kept_by(0)], [face, ()])
        for move in ("doom", "leave", "call f", "no"):
            play.move(move)
        self.assertEqual(play.face_of(0), face)

    def test_lengths(self):
        lib = library("maybe", "  call g", "  write a")
        play = Play.of(lib, ["enter join", "write z", "call f", "no", "call f", "yes", "write z", "call f", "no"])
        self.assertEqual([play.length_of(0), play.length_of(2)], [1, 1])
        for move in ("return", "yes", "leave", "yes"):
            play.move(move)
        self.assertEqual([play.length_of(0), play.length_of(1), play.length_of(2)], [1, 6, 1])
        self.assertEqual(Play.of(library("pass"), ["write z", "call f"]).length_of(0), 0)
        self.assertEqual(Play.of(library("write a"), ["call f", "yes", "write z"]).length_of(0), 1)

    def test_example_of_the_document(self):
        lib = Library("function f\n  block join\n    write a\n  write b")
        play = Play.of(lib, ["enter apart", "call f", "yes", "no"])
        self.assertEqual([play.asked, play.is_over, play.face_of(0), play.length_of(0)],
                         [("caller",), False, ("refused", False, ("a",), (), ("a",)), 2])
        self.assertEqual([play.move("leave"), play.move("yes"), play.kept_by(0), list(play.writes())],
                         ["", "", ("a",), [(0, "a", "kept")]])

    def test_what_is_kept_in_the_end_agrees_with_the_face(self):
        lib = library("write a", "block apart", "  write b")
        for end, kept in ((["leave", "yes"], ("a", "b")), (["leave", "no"], ("b",)), (["leave late"], ("b",)),
                          (["doom", "leave"], ("b",))):
            play = Play.of(lib, ["enter join", "call f", "yes", "yes", "yes", *end])
            self.assertEqual([play.is_over, play.kept_by(0)], [True, kept])
            self.assertNotIn("open", [fate for _, _, fate in play.writes()])


class BelongTest(unittest.TestCase):
    def test_writes_of_the_library_the_caller_and_calls_within(self):
        play = Play.of(STRANGER, ["write z", "enter join", "write y", "call f", "yes", "write x", "call f", "yes",
                                  "raise late", "return", "yes"])
        self.assertEqual(list(play.writes()), [(None, "z", "kept"), (None, "y", "open"), (0, "a", "open"),
                                               (None, "x", "open"), (1, "a", "open"), (0, "b", "open")])
        self.assertEqual(play.call_names(), ["f", "f"])
        play.move("leave")
        play.move("yes")
        self.assertEqual([play.kept_by(None), play.kept_by(0), play.kept_by(1)],
                         [("x", "y", "z"), ("a", "b"), ("a",)])

    def test_functions_that_are_called_by_others(self):
        lib = Library("function f\n  write c\n  call g\nfunction g\n  write b\n  call h\nfunction h\n  write a")
        play = Play.of(lib, ["call f", "yes", "yes", "yes", "call g", "yes", "no"])
        self.assertEqual(play.call_names(), ["f", "g"])
        self.assertEqual([play.kept_by(0), play.kept_by(1)], [("a", "b", "c"), ("b",)])
        self.assertEqual(list(play.writes()), [(0, "c", "kept"), (0, "b", "kept"), (0, "a", "kept"), (1, "b", "kept")])

    def test_kept_by_now(self):
        play = Play.of(library("write b", "call g", "write a"), ["call f", "yes"])
        self.assertEqual([play.kept_by(0), play.is_ended(0)], [("b",), False])
        play.move("return")
        play.move("yes")
        self.assertEqual([play.kept_by(0), play.is_ended(0)], [("a", "b"), True])

    def test_writes_that_wait(self):
        lib = library("try", "  write b", "except waits", "  write a")
        play = Play.of(lib, ["call f", "yes", "enter join", "write b", "enter apart", "call f", "yes", "write a", "call f",
                             "no"])
        self.assertEqual(list(play.waits()), [(1, "b"), (2, "b")])
        self.assertEqual(list(play.writes()), [(0, "b", "kept"), (None, "b", "open"), (1, "a", "open"), (None, "a", "open")])
        lib = Library("function f\n  block join\n    write a\n    call g\nfunction g\n  block apart\n    write a")
        self.assertEqual(list(Play.of(lib, ["call f", "yes"]).waits()), [(0, "a")])
        play = Play.of(lib, ["enter join", "write a", "doom", "call g"])
        self.assertEqual([list(play.waits()), play.face_of(0)], [[(0, "a")], ("waits", True, ("a",), (), ())])

    def test_writes_that_wait_in_a_call_within_an_unknown_function(self):
        lib = Library("function f\n  call g\n  write a\nfunction h\n  write a")
        play = Play.of(lib, ["enter join", "write a", "enter apart", "call f", "call h", "return"])
        self.assertEqual(list(play.waits()), [(1, "a"), (0, "a")])

    def test_writes_in_doomed_levels_do_not_wait(self):
        play = Play.of(library("write a"), ["enter join", "write a", "enter apart", "doom", "call f"])
        self.assertEqual([list(play.waits()), play.face_of(0)[0]], [[], "doomed"])

    def test_waiting_for_what_a_caller_within_holds(self):
        lib = library("block join", "  call g", "  block apart", "    write a")
        play = Play.of(lib, ["call f", "write a", "return"])
        self.assertEqual([list(play.waits()), play.face_of(0)], [[(0, "a")], ("waits", False, (), (), ())])

    def test_what_is_returned_is_new(self):
        play = Play.of(STRANGER, ["call f", "yes"])
        for told in (play.call_names, lambda: list(play.writes()), lambda: list(play.waits())):
            before = told()
            told().append("x")
            self.assertEqual(told(), before)


class UnknownTest(unittest.TestCase):
    def test_blocks_within_it(self):
        play = Play.of(STRANGER, ["enter join", "call f", "yes", "enter apart", "write z", "leave", "yes"])
        self.assertEqual([play.depth, list(play.writes())], [0, [(0, "a", "open"), (None, "z", "kept")]])
        play.move("enter join")
        self.assertEqual(play.move("leave odd"), "")
        self.assertEqual(play.move("return"), "doomed")
        self.assertEqual(play.asked, ("caller",))
        self.assertEqual(play.face_of(0), ("doomed", True, ("a",), (), ()))

    def test_errors_that_are_kept_and_handled(self):
        self.assertEqual(Play.of(STRANGER, ["call f", "yes", "raise late", "yes"]).face_of(0),
                         ("late", False, (), ("a",), ()))
        play = Play.of(STRANGER, ["call f", "yes"])
        self.assertEqual(play.move("raise odd"), "odd")
        self.assertEqual([play.face_of(0), play.is_over], [("?", False, (), (), ()), True])

    def test_doom_within_it_by_its_caller(self):
        play = Play.of(STRANGER, ["call f", "yes", "doom", "return"])
        self.assertEqual([play.face_of(0), play.is_over], [("doomed", False, (), (), ()), True])

    def test_several_calls_within_one(self):
        lib = Library("function f\n  call u\n  write a\nfunction g\n  call v")
        play = Play.of(lib, ["call f", "call g", "call f", "return", "yes", "enter join", "leave", "yes", "raise odd",
                             "call g", "return"])
        self.assertEqual(play.call_names(), ["f", "g", "f", "g"])
        self.assertEqual([play.is_ended(number) for number in range(4)], [False, True, True, True])
        self.assertEqual([play.face_of(number)[0] for number in (1, 2, 3)], ["?", "", ""])
        self.assertEqual([play.length_of(number) for number in (1, 2, 3)], [7, 2, 1])
        self.assertEqual([play.move("return"), play.asked, play.move("no"), play.length_of(0)],
                         ["", ("write", "a"), "refused", 12])

    def test_returns_to_the_very_statement_behind(self):
        lib = library("try", "  block join", "    call g", "    raise e", "except e", "  write a")
        play = Play.of(lib, ["call f", "enter join", "write b", "leave", "return"])
        self.assertEqual([play.asked, list(play.writes())], [("write", "a"), [(None, "b", "undone")]])
        play = Play.of(lib, ["call f"])
        self.assertEqual(play.move("raise odd"), "odd")


class DeepTest(unittest.TestCase):
    def test_functions_that_call_themselves(self):
        deep = 20000
        lib = library("maybe", "  block join", "    call f", "raise e")
        play = Play(lib)
        play.move("enter join")
        play.move("call f")
        for _ in range(deep):
            self.assertEqual(play.move("yes"), "")
        self.assertEqual(play.move("no"), "e")
        self.assertEqual([play.length_of(0), play.depth, play.asked], [deep + 1, 1, ("caller",)])
        self.assertEqual(play.face_of(0), ("e", True, (), (), ()))

    def test_transactions_in_one_another(self):
        lib = library("maybe", "  block apart", "    call f", "  write a")
        play = Play(lib)
        play.move("call f")
        for _ in range(3000):
            play.move("yes")
        play.move("no")
        for number in range(3000):
            self.assertEqual(play.asked, ("commit",))
            play.move("yes")
            self.assertEqual(play.asked, ("write", "a"))
            play.move("yes")
        self.assertEqual(play.is_over, True)
        self.assertEqual(play.face_of(0), ("", False, (), ("a",), ()))

    def test_calls_within_unknown_functions(self):
        deep = 3000
        lib = library("block join", "  call g", "  write a")
        play = Play(lib)
        for number in range(deep):
            play.move("call f")
        self.assertEqual([len(play.call_names()), play.case_of(deep - 1)], [deep, ("open", (), ())])
        for number in range(deep):
            play.move("return")
            self.assertEqual(play.asked, ("write", "a"))
            play.move("yes")
        self.assertEqual(play.asked, ("commit",))
        play.move("yes")
        self.assertEqual([play.is_over, play.kept_by(0), play.kept_by(deep - 1)], [True, ("a",), ("a",)])
        self.assertEqual([play.length_of(0), play.length_of(deep - 1)], [3 * deep, 2])

    def test_thousands_of_moves_take_little_time(self):
        begun = time.process_time()
        play = Play.of(library("repeat", "  write a", "call g"), ["enter join", "call f"])
        for _ in range(4000):
            play.move("yes")
        play.move("no")
        for _ in range(1000):
            for move in ("enter join", "write b", "call f", "no"):
                play.move(move)
            for move in ("return", "leave"):
                play.move(move)
        self.assertEqual(len(list(play.writes())), 3000)
        self.assertLess(time.process_time() - begun, 20)

    def test_many_blocks_of_the_caller(self):
        play = Play(library("pass"))
        for _ in range(3000):
            play.move("enter inner")
        self.assertEqual(play.depth, 3000)
        for _ in range(2999):
            self.assertEqual(play.move("leave"), "")
        self.assertEqual([play.move("leave"), play.asked, play.move("yes"), play.is_over], ["", ("commit",), "", True])


class ChangeTest(unittest.TestCase):
    def test_a_library_of_other_modes(self):
        lib = STRANGER.changed([(0, "must")])
        self.assertEqual(told_error(Play(lib).move, "call g"), ("NotNow", "call g"))
        self.assertEqual(Play(lib).move("call f"), "missing")
        self.assertEqual(Play(STRANGER).move("call f"), "")

    def test_a_play_of_a_joined_library(self):
        lib = Library.joined(STRANGER, Library("function g\n  raise late"))
        play = Play.of(lib, ["call f", "yes", "yes", "call g"])
        self.assertEqual(play_told(play)[4], [("f", ("none", (), ()), ("a",), ("late", False, (), ("a",), ()), 2),
                                              ("g", ("none", (), ()), (), ("late", False, (), (), ()), 0)])


if __name__ == "__main__":
    unittest.main()
