"""What each statement of a library does: points 14 to 17."""

import unittest

from innercommits.modes import Mode
from innercommits.plays import Play
from innercommits.texts import Library
from tests.helpers import library

# Callers that come before a call, by the case that they make of it.
NONE, OPEN, DOOMED = (), ("enter join", "write h"), ("enter join", "write h", "doom")
SUSPENDED = ("enter join", "write s", "enter outside")
PARTED = ("enter join", "write s", "enter apart", "write h")
PARTED_DOOMED = PARTED + ("doom",)
CALLERS = (NONE, OPEN, DOOMED, SUSPENDED, PARTED, PARTED_DOOMED)


def asked_by(play, answers):
    """All that the play asks, until it is the caller's turn again; the answers are yes and no."""
    found = []
    for answer in answers:
        found.append(play.asked)
        play.move(answer)
    return found


class FaceCase(unittest.TestCase):
    def end(self, lines, before=(), answers=(), strict=False, number=-1):
        """The face of a call of a function with these lines."""
        play = Play.of(library(*lines), [*before, "call f", *answers], strict=strict, records=list("abchs"))
        return play.face_of(len(play.call_names()) + number)

    def check(self, lines, answers, end, doomed=False, held=(), kept=(), pending=(), **more):
        self.assertEqual(self.end(lines, answers=answers, **more), (end, doomed, held, kept, pending))


class StatementTest(FaceCase):
    def test_simple_statements(self):
        self.check(["pass"], (), "")
        self.check(["raise e", "write a"], (), "e")
        self.check(["doom"], (), "")
        self.check(["doom"], (), "", True, ("h",), before=OPEN)
        self.check(["pass", "doom", "pass", "raise e", "write a"], (), "e", True, ("h",), before=OPEN)

    def test_one_after_another(self):
        play = Play.of(library("write a", "write b", "raise e", "write c"), ["call f"])
        self.assertEqual(asked_by(play, ["yes", "yes"]), [("write", "a"), ("write", "b")])
        self.assertEqual(play.face_of(0), ("e", False, (), ("a", "b"), ()))

    def test_calls_of_the_library(self):
        text = "function f\n  call g\n  write b\nfunction g\n  write a\n  maybe\n    raise e"
        play = Play.of(Library(text), ["call f", "yes", "no", "yes"])
        self.assertEqual(play.face_of(0), ("", False, (), ("a", "b"), ()))
        self.assertEqual(play.call_names(), ["f"])
        play = Play.of(Library(text), ["call f", "yes", "yes"])
        self.assertEqual(play.face_of(0), ("e", False, (), ("a",), ()))

    def test_doom_keeps_the_first_word(self):
        for lines, first in ((["doom"], "doom"), (["try", "  block join", "    raise e", "except", "  doom"], "e"),
                             (["doom", "try", "  block join", "    raise e", "except", "  doom"], "doom")):
            play = Play.of(library(*lines), ["enter join", "call f"])
            with self.assertRaises(ValueError) as caught:
                play.move("enter inner")
            self.assertEqual(caught.exception.first, first)

    def test_write_in_each_case(self):
        self.check(["write a"], ["yes"], "", kept=("a",))
        self.check(["write a"], ["no"], "refused")
        self.check(["write a"], ["yes"], "", False, ("a", "h"), (), ("a",), before=OPEN)
        self.check(["write a"], ["no"], "refused", False, ("h",), before=OPEN)
        self.check(["write h"], ["yes"], "", False, ("h",), (), ("h",), before=OPEN)
        self.check(["write a"], (), "doomed", True, ("h",), before=DOOMED)
        self.check(["write a"], ["yes"], "", kept=("a",), before=SUSPENDED)
        self.check(["write s"], (), "waits", before=SUSPENDED)
        self.check(["write s"], (), "waits", False, ("h",), before=PARTED)
        self.check(["write h"], ["yes"], "", False, ("h",), (), ("h",), before=PARTED)
        self.check(["write s"], (), "doomed", True, ("h",), before=PARTED_DOOMED)

    def test_writes_in_strict_databases(self):
        more = {"strict": True}
        self.check(["write a"], ["no"], "refused", **more)
        self.check(["write a"], ["no"], "refused", True, ("h",), before=OPEN, **more)
        self.check(["write s"], (), "waits", before=SUSPENDED, **more)
        self.check(["write s"], (), "waits", True, ("h",), before=PARTED, **more)
        self.check(["write a"], ["yes"], "", False, ("a", "h"), (), ("a",), before=OPEN, **more)
        self.check(["write s"], (), "doomed", True, ("h",), before=PARTED_DOOMED, **more)
        for lines, before, answers, first in ((["write a"], OPEN, ["no"], "refused"), (["write s"], PARTED, [], "waits"),
                                              (["doom", "write a"], OPEN, [], "doom")):
            play = Play.of(library(*lines), [*before, "call f", *answers], strict=True)
            with self.assertRaises(ValueError) as caught:
                play.move("write z")
            self.assertEqual(caught.exception.first, first)

    def test_a_strict_database_dooms_the_top_level_alone(self):
        lines = ["try", "  block inner", "    write a", "except", "  pass"]
        self.check(lines, ["no"], "", False, ("h",), before=OPEN, strict=True)
        lines = ["try", "  block inner keep refused", "    write a", "except", "  pass", "write b"]
        self.check(lines, ["no", "yes"], "", False, ("b", "h"), (), ("b",), before=OPEN, strict=True)

    def test_maybe(self):
        lines = ["maybe", "  write a", "write b"]
        self.check(lines, ["yes", "yes", "yes"], "", kept=("a", "b"))
        self.check(lines, ["no", "yes"], "", kept=("b",))
        self.check(lines, ["yes", "no"], "refused")
        play = Play.of(library(*lines), ["call f"])
        self.assertEqual(asked_by(play, ["yes", "yes", "no"]), [("maybe",), ("write", "a"), ("write", "b")])

    def test_repeat(self):
        lines = ["repeat", "  write a", "write b"]
        self.check(lines, ["no", "yes"], "", kept=("b",))
        self.check(lines, ["yes", "yes", "yes", "yes", "no", "yes"], "", kept=("a", "b"))
        self.check(lines, ["yes", "yes", "yes", "no"], "refused", kept=("a",))
        play = Play.of(library(*lines), ["call f"])
        self.assertEqual(asked_by(play, ["yes", "yes", "yes", "yes", "no", "yes"]),
                         [("repeat",), ("write", "a")] * 2 + [("repeat",), ("write", "b")])


class BlockTest(FaceCase):
    # Whether a block of the mode opens a transaction (or adds a level), joins one, or neither,
    # or the error that it is, by the caller before it.
    NO_CALLER = {"join": "opens", "inner": "opens", "apart": "opens", "must": "missing", "either": "nothing",
                 "never": "nothing", "outside": "nothing", "alone": "opens"}
    IN_ONE = {"join": "joins", "inner": "adds", "apart": "opens", "must": "joins", "either": "joins",
              "never": "present", "outside": "leaves", "alone": "present"}
    EFFECTS = {NONE: NO_CALLER, SUSPENDED: NO_CALLER, OPEN: IN_ONE, PARTED: IN_ONE,
               DOOMED: {**IN_ONE, "inner": "doomed"}, PARTED_DOOMED: {**IN_ONE, "inner": "doomed"}}

    def ways(self, before, mode, keep=""):
        """A block with a write and an error that may be raised, and answers that lead there."""
        lines = [f"block {mode}{keep}", "  maybe", "    write a", "  maybe", "    raise e"]
        effect = self.EFFECTS[before][mode]
        in_doomed = before in (DOOMED, PARTED_DOOMED) and effect == "joins"
        held = ("h",) if before in (OPEN, PARTED, DOOMED, PARTED_DOOMED) else ()
        return lines, effect, in_doomed, before in (DOOMED, PARTED_DOOMED), held

    def test_each_mode_in_each_case_left_well(self):
        for before in CALLERS:
            for mode in Mode.ALL:
                lines, effect, in_doomed, doomed, held = self.ways(before, mode)
                end, kept, pending, answers = "", (), (), ["yes", "yes", "no"]
                if effect in ("missing", "present", "doomed"):
                    end, answers = effect, []
                elif in_doomed:
                    end, answers = "doomed", ["yes"]
                elif effect == "opens":
                    answers, kept = answers + ["yes"], ("a",)
                elif effect in ("nothing", "leaves"):
                    kept = ("a",)
                else:
                    pending, held = ("a",), ("a", "h")
                with self.subTest(mode, before=before):
                    self.check(lines, answers, end, doomed, held, kept, pending, before=before)

    def test_each_mode_in_each_case_left_by_an_error(self):
        for before in CALLERS:
            for mode in Mode.ALL:
                lines, effect, in_doomed, doomed, held = self.ways(before, mode)
                end, kept, answers = "e", (), ["yes", "yes", "yes"]
                if effect in ("missing", "present", "doomed"):
                    end, answers = effect, []
                elif in_doomed:
                    answers = ["no", "yes"]
                elif effect in ("nothing", "leaves"):
                    kept = ("a",)
                elif effect == "joins":
                    doomed, held = True, ("a", "h")
                with self.subTest(mode, before=before):
                    self.check(lines, answers, end, doomed, held, kept, (), before=before)

    def test_each_mode_in_each_case_left_by_a_kept_error(self):
        for before in CALLERS:
            for mode in Mode.ALL:
                lines, effect, in_doomed, doomed, held = self.ways(before, mode, " keep late e")
                end, kept, pending, answers = "e", (), (), ["yes", "yes", "yes"]
                if effect in ("missing", "present", "doomed"):
                    end, answers = effect, []
                elif in_doomed:
                    answers = ["no", "yes"]
                elif effect == "opens":
                    answers, kept = answers + ["yes"], ("a",)
                elif effect in ("nothing", "leaves"):
                    kept = ("a",)
                else:
                    pending, held = ("a",), ("a", "h")
                with self.subTest(mode, before=before):
                    self.check(lines, answers, end, doomed, held, kept, pending, before=before)

    def test_refused_commits(self):
        for keep in ("", " keep e"):
            for mode in ("join", "inner", "apart", "alone"):
                self.check([f"block {mode}{keep}", "  write a"], ["yes", "no"], "refused")
        self.check(["block join keep e", "  write a", "  raise e"], ["yes", "no"], "refused")
        self.check(["block join keep refused", "  write a"], ["no", "no"], "refused")
        self.check(["block join keep refused", "  write b", "  write a"], ["yes", "no", "yes"], "refused", kept=("b",))
        self.check(["block inner", "  block inner", "    write a"], ["yes", "no"], "refused")

    def test_a_refused_commit_undoes_what_is_within(self):
        self.check(["block join", "  write a", "  block inner", "    write b"], ["yes", "yes", "no"], "refused")
        self.check(["block join", "  write a", "  block apart", "    write b"], ["yes", "yes", "yes", "no"],
                   "refused", kept=("b",))

    def test_ends_of_doomed_levels(self):
        for mode in ("join", "apart", "alone", "inner"):
            self.check([f"block {mode}", "  write a", "  doom"], ["yes"], "doomed")
            self.check([f"block {mode}", "  write a", "  doom", "  raise e"], ["yes"], "e")
            self.check([f"block {mode} keep e", "  write a", "  doom", "  raise e"], ["yes"], "e")
            self.check([f"block {mode} keep doomed", "  doom", "  write a"], [], "doomed")
        self.check(["block inner", "  write a", "  doom"], ["yes"], "doomed", False, ("h",), before=OPEN)
        self.check(["block inner keep e", "  write a", "  doom", "  raise e"], ["yes"], "e", False, ("h",), before=OPEN)

    def test_a_joined_block_that_dooms(self):
        lines = ["block join", "  write a", "  try", "    block must", "      raise e", "  except", "    pass"]
        self.check(lines, ["yes"], "doomed")
        lines = ["block join", "  write a", "  try", "    block must keep e", "      raise e", "  except", "    pass"]
        self.check(lines, ["yes", "yes"], "", kept=("a",))

    def test_levels_within_levels(self):
        lines = ["block join", "  write a", "  try", "    block inner", "      write b", "      block inner",
                 "        write c", "      raise e", "  except e", "    pass"]
        self.check(lines, ["yes", "yes", "yes", "yes"], "", kept=("a",))

    def test_waits_for_itself(self):
        lines = ["block join", "  write a", "  block apart", "    write a"]
        play = Play.of(library(*lines), ["call f", "yes"])
        self.assertEqual([list(play.waits()), play.face_of(0)], [[(0, "a")], ("waits", False, (), (), ())])
        lines[2] = "  block outside"
        self.check(lines, ["yes"], "waits")
        lines = ["block join", "  write a", "  block apart keep waits", "    write b", "    write a"]
        self.check(lines, ["yes", "yes", "yes"], "waits", kept=("b",))
        self.check(lines, ["yes", "yes"], "waits", strict=True)


class TryTest(FaceCase):
    def test_the_first_handler_that_mentions_the_error(self):
        lines = ["try", "  raise e", "except late", "  write a", "except e late", "  write b", "except e", "  write c",
                 "except", "  write c"]
        self.check(lines, ["yes"], "", kept=("b",))

    def test_no_handler_mentions_the_error(self):
        self.check(["try", "  raise e", "except late odd", "  write a", "except even", "  pass"], [], "e")

    def test_except_alone(self):
        self.check(["try", "  raise e", "except late", "  write a", "except", "  write b"], ["yes"], "", kept=("b",))
        for before, line, word in ((NONE, "block must", "missing"), (OPEN, "block alone", "present")):
            lines = ["try", "  " + line, "    pass", "except " + word, "  write a"]
            self.assertEqual(self.end(lines, before, ["yes"])[0], "")
            self.assertEqual(self.end(["try", *lines[1:3], "except", "  pass"], before)[0], "")

    def test_a_body_that_ends_well_has_no_handler(self):
        self.check(["try", "  pass", "except", "  raise e"], [], "")
        self.check(["try", "  pass", "except", "  raise e", "finally", "  write a"], ["yes"], "", kept=("a",))

    def test_errors_of_handlers_are_not_handled_there(self):
        self.check(["try", "  raise e", "except e", "  raise late", "except late", "  pass", "except", "  pass"], [], "late")
        self.check(["try", "  try", "    raise e", "  except e", "    raise late", "except late", "  pass"], [], "")

    def test_finally_is_executed_in_any_case(self):
        for lines, end in ((["  pass", "except", "  pass"], ""), (["  raise e", "except e", "  pass"], ""),
                           (["  raise e", "except late", "  pass"], "e"), (["  raise e", "except e", "  raise odd"], "odd"),
                           (["  raise e"], "e"), (["  pass"], "")):
            self.check(["try", *lines, "finally", "  write a"], ["yes"], end, kept=("a",))

    def test_finally_that_ends_by_an_error(self):
        for lines in (["  pass"], ["  raise e"], ["  raise e", "except e", "  pass"], ["  raise e", "except", "  raise odd"],
                      ["  raise e", "except late", "  pass"]):
            self.check(["try", *lines, "finally", "  write a", "  raise last"], ["yes"], "last", kept=("a",))
            self.check(["try", *lines, "finally", "  write a"], ["no"], "refused")

    def test_errors_of_finally_are_not_handled_there(self):
        self.check(["try", "  pass", "except last", "  pass", "except", "  pass", "finally", "  raise last"], [], "last")

    def test_finally_within_a_doomed_level(self):
        lines = ["block join", "  try", "    write a", "    doom", "  finally", "    write b"]
        self.check(lines, ["yes"], "doomed")

    def test_each_error_can_be_handled(self):
        for lines, before, answers in ((["write a"], NONE, ["no"]), (["write a"], DOOMED, []), (["write s"], PARTED, []),
                                       (["block must", "  pass"], NONE, []), (["block never", "  pass"], OPEN, []),
                                       (["block inner", "  pass"], DOOMED, []), (["block apart", "  pass"], OPEN, ["no"]),
                                       (["block apart", "  doom"], OPEN, [])):
            word = self.end(lines, before, answers)[0]
            inner = ["  " + line for line in lines]
            self.assertNotEqual(word, "")
            self.assertEqual(self.end(["try", *inner, f"except late {word}", "  raise handled"], before, answers)[0],
                             "handled")
            self.assertEqual(self.end(["try", *inner, "except late", "  raise handled"], before, answers)[0], word)


if __name__ == "__main__":
    unittest.main()
