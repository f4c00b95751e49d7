"""Callers that are written as texts: 27 and 28, with 12, 13 and 20 for what is joined."""

import random
import unittest

from innercommits.callers import Run
from innercommits.errors import Clash, Endless, NoFunction, TooMany, Unknown
from innercommits.plays import Play
from innercommits.texts import Library
from tests.helpers import play_told, told_error
from tests.library_model import Writer
from tests.run_model import RunModel

PLAIN = Library("function f\n  write a")


def text(name, *lines):
    return "\n".join(["function " + name, *["  " + line for line in lines]])


def caller(*lines, more=""):
    return Library(text("start", *lines) + more)


class RunTest(unittest.TestCase):
    def check(self, library, calls, answers, whole, alone, end="", strict=False):
        run = Run(library, calls, "start", answers, strict=strict)
        self.assertEqual([run.whole.moves, run.alone.moves, run.end],
                         [("call start", *whole), tuple(alone), end])
        self.assertEqual([run.whole.is_over, run.alone.is_over], [True, True])
        self.assertEqual([write[1:] for write in run.whole.writes()], [write[1:] for write in run.alone.writes()])
        return run


class ErrorTest(unittest.TestCase):
    def test_clash(self):
        one = Library("function f\n  call u\nfunction g\n  pass")
        other = Library("function g\n  pass\nfunction f\n  call w")
        self.assertEqual(told_error(Run, one, other, "x", []), ("Clash", "f"))
        self.assertEqual(told_error(Run, one, one, "f", []), ("Clash", "f"))

    def test_clash_first_then_what_the_joined_text_is(self):
        many = "\n".join(text(f"f{letter}", "call nowhere") for letter in "abcdefgh")
        more = "\n".join(text(f"g{letter}", "call nowhere") for letter in "abcdefgh")
        self.assertEqual(told_error(Run, Library(many), Library(many), "x", []), ("Clash", "fa"))
        self.assertEqual(told_error(Run, Library(many), Library(more), "x", []), ("TooMany", "functions"))

    def test_endless_through_both(self):
        library = Library("function f\n  call g")
        self.assertEqual(told_error(Run, library, Library("function g\n  call f\n  call u"), "x", []), ("Endless", "f"))
        Run(library, Library("function g\n  maybe\n    call f\nfunction h\n  call f"), "h", [])

    def test_bounds_of_what_is_joined(self):
        wide = "function {}\n" + "\n".join(["  pass"] * 41)
        self.assertEqual(told_error(Run, Library(wide.format("f")), Library(wide.format("g")), "g", []),
                         ("TooMany", "statements"))
        heavy = Library(text("f", *["call g"] * 20))
        light = Library(text("g", *["pass"] * 20) + "\n" + text("start", "call f"))
        self.assertEqual(told_error(Run, heavy, light, "start", []), ("TooMany", "weight"))
        long = "function {}\n" + "\n".join(["  block join keep " + " ".join(["late"] * 590) + "\n    pass"] * 1)
        self.assertEqual(told_error(Run, Library(long.format("f") + "\n  block join keep " + " ".join(["late"] * 500)
                                                 + "\n    pass"),
                                    Library(long.format("g")), "g", []), ("TooMany", "characters"))

    def test_unknown(self):
        library = Library("function f\n  call z\n  call b")
        self.assertEqual(told_error(Run, library, caller("call y", "call f"), "nowhere", []), ("Unknown", "b"))
        self.assertEqual(told_error(Run, library, caller("call y", more="\nfunction b\n  pass"), "start", []),
                         ("Unknown", "y"))
        self.assertEqual(told_error(Run, PLAIN, caller("call g"), "f", []), ("Unknown", "g"))

    def test_no_function(self):
        for name in ("f", "g", "", "Start", "starts"):
            self.assertEqual(told_error(Run, PLAIN, caller("call f"), name, []), ("NoFunction", name))

    def test_errors_change_nothing(self):
        library, calls = Library("function f\n  call u"), caller("pass")
        answers = ["yes"]
        with self.assertRaises(Unknown):
            Run(library, calls, "start", answers)
        self.assertEqual([str(library), str(calls), answers], ["function f\n  call u", "function start\n  pass", ["yes"]])
        for error in (Clash, Endless, NoFunction, TooMany, Unknown):
            self.assertTrue(issubclass(error, ValueError))


class MoveTest(RunTest):
    def test_answers(self):
        library = Library(text("f", "write a", "write b"))
        calls = caller("call f")
        answers = ["yes", "yes", "yes", "no"]
        self.check(library, calls, answers, ["yes", "yes"], ["call f", "yes", "yes"])
        self.assertEqual(answers, ["yes", "yes", "yes", "no"])
        self.check(library, calls, [], ["no"], ["call f", "no"], "refused")
        self.check(library, calls, ["yes"], ["yes", "no"], ["call f", "yes", "no"], "refused")
        run = Run(library=library, caller=calls, start="start", answers=["yes"], strict=False)
        self.assertEqual([run.end, run.whole.kept_by(0), run.alone.kept_by(0)], ["refused", ("a",), ("a",)])

    def test_later_changes_of_the_answers_do_not_matter(self):
        answers = ["yes"]
        run = Run(PLAIN, caller("call f"), "start", answers)
        answers.append("no")
        self.assertEqual(run.whole.moves, ("call start", "yes"))

    def test_nothing_to_do(self):
        self.check(PLAIN, caller("pass"), ["yes"], [], [])
        self.check(PLAIN, caller("raise odd"), [], [], [], "odd")

    def test_blocks_that_are_entered(self):
        for mode in ("join", "inner", "apart", "alone"):
            calls = caller("block " + mode, "  call f")
            self.check(PLAIN, calls, ["yes", "yes"], ["yes", "yes"],
                       ["enter " + mode, "call f", "yes", "leave", "yes"])
            self.check(PLAIN, calls, ["yes", "no"], ["yes", "no"],
                       ["enter " + mode, "call f", "yes", "leave", "no"], "refused")
            self.check(PLAIN, calls, ["no"], ["no"], ["enter " + mode, "call f", "no", "leave refused"], "refused")
        for mode in ("either", "never", "outside"):
            self.check(PLAIN, caller("block " + mode, "  call f"), ["yes"], ["yes"],
                       ["enter " + mode, "call f", "yes", "leave"])

    def test_blocks_within_a_transaction(self):
        for mode in ("join", "must", "either", "inner", "outside"):
            self.check(PLAIN, caller("block join", "  block " + mode, "    call f"), ["yes", "yes"], ["yes", "yes"],
                       ["enter join", "enter " + mode, "call f", "yes", "leave", "leave", "yes"])
        self.check(PLAIN, caller("block join", "  block apart", "    call f"), ["yes", "yes", "no"],
                   ["yes", "yes", "no"],
                   ["enter join", "enter apart", "call f", "yes", "leave", "yes", "leave", "no"], "refused")

    def test_blocks_that_cannot_be_entered(self):
        self.check(PLAIN, caller("block must", "  call f"), ["yes"], [], [], "missing")
        for mode in ("never", "alone"):
            self.check(PLAIN, caller("block join", "  try", "    block " + mode, "      call f", "  except present",
                                     "    call f"), ["yes", "yes"], ["yes", "yes"],
                       ["enter join", "call f", "yes", "leave", "yes"])
        self.check(PLAIN, caller("block join", "  doom", "  block inner", "    call f"), [], [],
                   ["enter join", "doom", "leave doomed"], "doomed")

    def test_blocks_that_are_left_by_errors(self):
        self.check(PLAIN, caller("block join", "  write b", "  raise late"), ["yes"], ["yes"],
                   ["enter join", "write b", "leave late"], "late")
        self.check(PLAIN, caller("block join keep odd late", "  write b", "  raise late"), ["yes", "yes"],
                   ["yes", "yes"], ["enter join", "write b", "leave", "yes"], "late")
        self.check(PLAIN, caller("block join keep late", "  write b", "  raise late"), ["yes", "no"], ["yes", "no"],
                   ["enter join", "write b", "leave", "no"], "refused")
        self.check(PLAIN, caller("block join", "  block join keep late", "    raise late"), [], [],
                   ["enter join", "enter join", "leave", "leave late"], "late")

    def test_doomed_blocks(self):
        self.check(PLAIN, caller("block join", "  doom"), [], [], ["enter join", "doom", "leave"], "doomed")
        self.check(PLAIN, caller("block join keep late", "  doom", "  raise late"), [], [],
                   ["enter join", "doom", "leave"], "late")
        self.check(PLAIN, caller("block join", "  block inner", "    doom", "  call f"), ["yes"], [],
                   ["enter join", "enter inner", "doom", "leave", "leave doomed"], "doomed")

    def test_doom_with_a_transaction_and_without(self):
        self.check(PLAIN, caller("doom", "call f"), ["yes"], ["yes"], ["call f", "yes"])
        self.check(PLAIN, caller("block join", "  doom", "  doom", "  block outside", "    doom", "  call f"), [], [],
                   ["enter join", "doom", "doom", "enter outside", "leave", "call f", "leave doomed"], "doomed")

    def test_writes(self):
        self.check(PLAIN, caller("write b", "block join", "  write c"), ["yes", "yes", "yes"], ["yes", "yes", "yes"],
                   ["write b", "enter join", "write c", "leave", "yes"])
        self.check(PLAIN, caller("try", "  write b", "except refused", "  call f"), ["no", "yes"], ["no", "yes"],
                   ["call f", "yes"])
        self.check(PLAIN, caller("block join", "  doom", "  try", "    write b", "  except doomed", "    pass"), [], [],
                   ["enter join", "doom", "leave"], "doomed")
        self.check(PLAIN, caller("block join", "  write b", "  block apart", "    try", "      write b",
                                 "    except waits", "      write c"), ["yes", "yes", "yes", "yes"],
                   ["yes", "yes", "yes", "yes"],
                   ["enter join", "write b", "enter apart", "write c", "leave", "yes", "leave", "yes"])

    def test_writes_in_strict_databases(self):
        calls = caller("block join", "  try", "    write b", "  except", "    pass")
        self.check(PLAIN, calls, ["no", "yes"], ["no", "yes"], ["enter join", "leave", "yes"])
        self.check(PLAIN, calls, ["no", "yes"], ["no"], ["enter join", "doom", "leave"], "doomed", strict=True)
        self.check(PLAIN, caller("try", "  write b", "except", "  call f"), ["no", "yes"], ["no", "yes"],
                   ["call f", "yes"], strict=True)
        waits = caller("block join", "  write b", "  block apart", "    try", "      write b", "    except", "      pass",
                       "  block outside", "    write b")
        self.check(PLAIN, waits, ["yes"], ["yes"],
                   ["enter join", "write b", "enter apart", "doom", "leave", "leave doomed"], "doomed", strict=True)
        self.check(PLAIN, waits, ["yes", "yes"], ["yes", "yes"],
                   ["enter join", "write b", "enter apart", "leave", "yes", "enter outside", "leave waits",
                    "leave waits"], "waits")
        library = Library(text("f", "block join", "  try", "    write a", "  except", "    pass"))
        self.check(library, caller("call f"), ["no"], ["no"], ["call f", "no"], "doomed", strict=True)
        doomed = caller("block join", "  doom", "  write b")
        self.check(PLAIN, doomed, ["no"], [], ["enter join", "doom", "leave doomed"], "doomed", strict=True)

    def test_maybe_repeat_and_try_of_the_caller(self):
        calls = caller("maybe", "  call f", "repeat", "  call f", "try", "  raise late", "finally", "  call f")
        self.check(PLAIN, calls, ["yes", "yes", "yes", "yes", "no", "yes"], ["yes", "yes", "yes", "yes", "no", "yes"],
                   ["call f", "yes", "call f", "yes", "call f", "yes"], "late")
        self.check(PLAIN, calls, [], ["no", "no", "no"], ["call f", "no"], "refused")

    def test_maybe_and_repeat_of_the_library(self):
        library = Library(text("f", "maybe", "  write a", "repeat", "  write b"))
        answers = ["no", "yes", "yes", "yes", "no"]
        self.check(library, caller("call f"), answers, answers, ["call f", *answers], "refused")

    def test_functions_of_the_caller_that_call_one_another(self):
        calls = caller("call more", "raise late", more="\nfunction more\n  block join\n    call f")
        self.check(PLAIN, calls, ["yes", "yes"], ["yes", "yes"], ["enter join", "call f", "yes", "leave", "yes"], "late")

    def test_unknown_functions(self):
        library = Library(text("f", "block join keep late", "  call g", "  write a") + "\n" + text("h", "write b"))
        calls = caller("call f", more="\n" + text("g", "call h", "maybe", "  raise late"))
        run = self.check(library, calls, ["yes", "no", "yes", "yes"], ["yes", "no", "yes", "yes"],
                         ["call f", "call h", "yes", "return", "yes", "yes"])
        self.assertEqual([run.alone.call_names(), run.alone.kept_by(0), run.alone.kept_by(1)],
                         [["f", "h"], ("a",), ("b",)])
        self.check(library, calls, ["yes", "yes", "yes"], ["yes", "yes", "yes"],
                   ["call f", "call h", "yes", "raise late", "yes"], "late")
        self.check(library, calls, ["no"], ["no"], ["call f", "call h", "no", "raise refused", ], "refused")
        blocks = caller("call f", more="\n" + text("g", "block inner", "  block apart", "    doom", "write c"))
        self.check(library, blocks, ["yes", "yes", "no"], [],
                   ["call f", "enter inner", "enter apart", "doom", "leave", "leave doomed", "raise doomed"], "doomed")

    def test_the_records_that_are_looked_at(self):
        run = Run(PLAIN, caller("write z", "block join", "  write y", "  call f"), "start", ["yes"] * 4)
        self.assertEqual([run.whole.face_of(0), run.alone.case_of(0), run.alone.face_of(0)],
                         [("", False, (), ("a", "y", "z"), ()), ("open", (), ()), ("", False, ("a",), (), ("a",))])

    def test_plays_are_plays(self):
        library = Library(text("f", "write a"))
        run = Run(library, caller("block join", "  call f"), "start", ["yes", "yes"], strict=True)
        self.assertEqual(play_told(run.alone), play_told(Play.of(library, run.alone.moves, strict=True)))
        joined = Library.joined(library, caller("block join", "  call f"))
        self.assertEqual(play_told(run.whole), play_told(Play.of(joined, ["call start", "yes", "yes"], strict=True)))
        run.alone.move("write z")
        self.assertEqual(run.whole.moves, ("call start", "yes", "yes"))


class DepthTest(RunTest):
    def test_calls_thousands_deep(self):
        library = Library(text("f", "maybe", "  block apart", "    write a", "    call g", "    raise late"))
        calls = caller("call f", more="\n" + text("g", "block outside", "  maybe", "    call f"))
        deep = Library(text("f", "maybe", "  block apart keep late", "    call g", "    raise late"))
        run = Run(deep, calls, "start", ["yes"] * 9000 + ["no"] + ["yes"] * 4500)
        self.assertEqual([run.end, run.whole.is_over, run.alone.is_over], ["late", True, True])
        self.assertEqual([len(run.alone.call_names()), len(run.whole.moves)], [4501, 13502])
        self.assertEqual(Run(deep, calls, "start", ["yes"] * 9000).end, "refused")
        run = Run(library, calls, "start", ["yes"] * 9000)
        self.assertEqual([run.end, list(run.alone.waits())], ["waits", [(1, "a")]])

    def test_own_calls_hundreds_deep(self):
        calls = caller("maybe", "  call start", "write b", "call f")
        run = Run(PLAIN, calls, "start", ["yes"] * 700 + ["no"] + ["yes"] * 1402)
        self.assertEqual([run.end, len(run.alone.call_names()), len(run.alone.moves)], ["", 701, 701 * 3])


class CallWriter(Writer):
    """One that guards most calls, as few libraries could be joined otherwise."""

    def statement(self, nesting, size):
        lines = super().statement(nesting, size)
        if len(lines) == 1 and lines[0].lstrip().startswith("call") and nesting < 8 and self.chance.random() < 0.9:
            return ["  " * nesting + self.chance.choice(("maybe", "repeat")), "  " + lines[0]]
        return lines


class RunModelTest(unittest.TestCase):
    SIMPLE = ("write",) * 6 + ("call",) * 6 + ("raise", "doom", "pass")

    def pair(self, chance):
        """Texts of a library and a caller, by chance."""
        inner = CallWriter(chance, names=("f", "g"), called=("f", "g", "u", "v", "u"), simple=self.SIMPLE)
        outer = CallWriter(chance, names=("s", "u", "v"), called=("f", "g", "f", "g", "v"), records=("a", "b", "z"),
                       simple=self.SIMPLE)
        return inner.library(chance.randint(2, 5)), outer.library(chance.randint(2, 5))

    def test_many_runs(self):
        chance = random.Random(7)
        long = 0
        for _ in range(6000):
            library, calls = self.pair(chance)
            answers = [chance.choice(("yes", "yes", "yes", "no")) for _ in range(chance.choice((0, 5, 30)))]
            strict = chance.random() < 0.5
            try:
                run = Run(Library(library), Library(calls), "s", answers, strict=strict)
            except (Endless, TooMany, Unknown):
                continue
            model = RunModel(library, calls, "s", answers, strict)
            self.assertEqual(run.whole.moves, ("call s", *model.given), (library, calls))
            self.assertEqual((run.alone.moves, run.end), (tuple(model.moves), model.end), (library, calls))
            writes = [tuple(write) for write in zip(*[[write[at] for write in model.db.made] for at in (0, 2)])]
            for play in (run.whole, run.alone):
                self.assertTrue(play.is_over)
                self.assertEqual([write[1:] for write in play.writes()], writes)
            long += len(model.moves) > 12
        self.assertGreater(long, 150)


if __name__ == "__main__":
    unittest.main()
