"""Fates, and rules that hold or do not: 32 and 33."""

import random
import unittest

from innercommits.errors import NoFate
from innercommits.fates import Fates, Verdict, judge
from innercommits.looker import is_closed, is_verdict
from innercommits.plays import Play
from innercommits.rules import Rule, subsets
from innercommits.tables import Table, entry_cases
from innercommits.texts import Library
from tests.explorer import Explorer, some_library
from tests.helpers import library, told_error

RAISES = ("raise late", "raise odd", "raise bad", "raise refused", "raise waits", "raise doomed")
WORDS = ("enter join", "enter apart", "enter outside", "leave", "leave late", "doom", "write a", "return", *RAISES)
SILENT_WORDS = ("enter join", "enter inner", "leave", "leave late", "doom", "return", *RAISES)
NO_FATES = [None, 0, 1, True, False, "", "a", "ab", [], ["a"], ["a", "b"], ("b", "a"), ("a", "a"), ("z",), (True,), (0,),
            (None,), ((),), (("a",),), ([],), ("a", "b", "c"), ("a", None), {}, "a" * 3000, ("a",) * 3000]


def fates_by_table(lib, name, **more):
    """Point 32."""
    found = set()
    silent = more.get("silent", False)
    table = Table(lib, names=[name], **more)
    for case in entry_cases(lib.records(), silent=silent):
        for (_, doomed, _, kept, pending), _ in table.faces(name, case):
            found.add(kept)
            if not doomed:
                found.add(tuple(sorted(set(kept) | set(pending))))
    return sorted(found)


def is_silent(moves):
    return not any(move.startswith("write ") for move in moves)


class FatesTest(unittest.TestCase):
    def check_plays(self, lib, name, fates, strict, silent):
        for kept in fates.sets():
            moves = fates[kept]
            self.assertIsInstance(moves, tuple)
            play = Play.of(lib, moves, strict=strict)
            self.assertEqual([play.is_over, play.call_names(), play.kept_by(0)], [True, [name], kept])
            self.assertTrue(is_silent(moves) or not silent)

    def test_example_of_the_document(self):
        lib = library("write a", "block apart", "  write b")
        self.assertEqual(Fates(lib, "f").sets(), [(), ("a",), ("a", "b"), ("b",)])
        self.assertEqual(Fates(library("write a", "write b"), "f").sets(), [(), ("a",), ("a", "b")])
        self.assertEqual(Fates(library("block join", "  write a", "  write b"), "f").sets(), [(), ("a", "b")])

    def test_what_it_tells(self):
        lib = library("write a", "block apart", "  write b")
        fates = Fates(lib, "f")
        self.assertEqual(len(fates), 4)
        for kept in ((), ("a",), ("b",), ("a", "b")):
            self.assertIs(kept in fates, True)
        for thing in NO_FATES:
            self.assertIs(thing in fates, False, thing)
            with self.assertRaises(NoFate) as caught:
                fates[thing]
            self.assertEqual(caught.exception.kept, thing)
            self.assertIs(type(caught.exception.kept), type(thing))
        found = fates.sets()
        found.clear()
        self.assertEqual(fates.sets(), [(), ("a",), ("a", "b"), ("b",)])
        self.assertEqual([len(fates[kept]) for kept in fates.sets()], [2, 3, 4, 6])
        with self.assertRaises(TypeError):
            iter(fates)

    def test_lengths_that_are_known(self):
        self.assertEqual(Fates(library("pass"), "f")[()], ("call f",))
        lib = library("block must", "  write a")
        self.assertEqual(Fates(lib, "f")[("a",)][1:], ("call f", "yes", "leave", "yes"))
        self.assertEqual(len(Fates(lib, "f")[()]), 1)
        lib = library("try", "  write a", "  write a", "except refused", "  write b", "except waits", "  write c")
        # The write of c needs a suspended transaction that holds a, which a silent caller cannot have.
        self.assertEqual(Fates(lib, "f").sets(), [(), ("a",), ("a", "b"), ("b",), ("c",)])
        self.assertEqual(Fates(lib, "f", silent=True).sets(), [(), ("a",), ("a", "b"), ("b",)])
        self.assertEqual(len(Fates(lib, "f")[("c",)]), 7)

    def test_errors(self):
        many = Library("function f\n" + "\n".join(f"  write {record}" for record in "abcd") + "\n  pass" * 27)
        long = Library("function f\n  write a" + "\n  pass" * 30)
        for deed in (Fates, lambda lib, name: judge(lib, name, Rule.always())):
            self.assertEqual(told_error(deed, many, "g"), ("NoFunction", "g"))
            self.assertEqual(told_error(deed, many, "f"), ("TooMany", "records"))
            self.assertEqual(told_error(deed, long, "f"), ("TooMany", "statements"))

    def test_against_tables_and_by_playing(self):
        chance = random.Random(9)
        for number in range(200):
            lib = Library(some_library(chance, chance.randint(2, 6)))
            more = {"strict": number % 2 == 0, "silent": number % 3 == 0}
            fates = Fates(lib, "f", **more)
            self.assertEqual(fates.sets(), fates_by_table(lib, "f", **more))
            self.check_plays(lib, "f", fates, **more)

    def test_no_shorter_plays(self):
        chance = random.Random(10)
        libraries = [library("write a", "block apart", "  write b"), library("block must", "  write a"),
                     library("call g", "block must", "  write a"), library("block inner", "  write a", "  call g"),
                     library("try", "  block must", "    write a", "except missing", "  block alone", "    write b")]
        libraries += [Library(some_library(chance, 3, names=("f",), called=("g", "g"), records=("a", "b"), most=7))
                      for _ in range(20)]
        for number, lib in enumerate(libraries):
            for silent, longest in ((False, 5), (True, 6)):
                strict = number % 2 == 0
                fates = Fates(lib, "f", strict=strict, silent=silent)
                self.check_plays(lib, "f", fates, strict, silent)
                found = {}
                words = SILENT_WORDS if silent else WORDS
                for play in Explorer(lib, "f", words, longest, closing=True, strict=strict).plays():
                    if play.is_over and play.call_names():
                        kept = play.kept_by(0)
                        found[kept] = min(found.get(kept, 99), len(play.moves))
                self.assertEqual(found, {kept: len(fates[kept]) for kept in fates.sets()
                                         if len(fates[kept]) <= longest}, str(lib))


class JudgeTest(unittest.TestCase):
    def test_example_of_the_document(self):
        lib = library("write a", "block apart", "  write b")
        self.assertEqual(len(judge(lib, "f", Rule.together("a", "b"))), 3)

    def test_rules_that_hold(self):
        lib = library("block join", "  write a", "  write b", "block outside", "  write c")
        rule = Rule.together("a", "b")
        for more in ({}, {"silent": True}, {"strict": True}):
            verdict = judge(lib, "f", rule, **more)
            self.assertIsInstance(verdict, Verdict)
            self.assertEqual([bool(verdict), len(verdict), verdict.certificate[0]], [True, 0, "holds"])
            self.assertEqual(verdict.certificate, ("holds", Table(lib, names=["f"], **more).certificate))
            self.assertTrue(is_closed(lib, verdict.certificate[1], names=["f"], **more))
        self.assertTrue(judge(library=lib, name="f", rule=Rule.always(), strict=True, silent=True))
        self.assertTrue(judge(lib, "f", ~Rule.has("z")))

    def test_rules_that_are_broken(self):
        lib = library("write a", "write b")
        verdict = judge(lib, "f", Rule.together("a", "b"))
        self.assertEqual([bool(verdict), len(verdict)], [False, 3])
        self.assertEqual(verdict.certificate, ("breaks", ("call f", "yes", "no")))
        verdict = judge(lib, "f", ~Rule.always())
        self.assertEqual([bool(verdict), len(verdict)], [False, 2])
        self.assertFalse(judge(lib, "f", Rule.has("z")))
        lib = library("block must", "  write a")
        verdict = judge(lib, "f", ~Rule.has("a"))
        self.assertEqual([len(verdict), verdict.certificate[1][1:]], [5, ("call f", "yes", "leave", "yes")])

    def test_silent_callers_break_fewer(self):
        lib = library("try", "  write a", "except waits", "  write b")
        rule = ~Rule.has("b")
        self.assertTrue(judge(lib, "f", rule, silent=True))
        verdict = judge(lib, "f", rule)
        self.assertEqual([bool(verdict), len(verdict)], [False, 7])

    def test_by_chance(self):
        chance = random.Random(14)
        held = 0
        for number in range(150):
            lib = Library(some_library(chance, chance.randint(2, 5)))
            more = {"strict": number % 2 == 0, "silent": number % 3 == 0}
            fates = Fates(lib, "f", **more)
            rule = chance.choice((Rule.together("a", "b"), Rule.has("a") >> Rule.has("b"), ~Rule.has("c"),
                                  Rule.has("a") | Rule.together("b", "c")))
            broken = [kept for kept in fates.sets() if not rule(kept)]
            verdict = judge(lib, "f", rule, **more)
            self.assertTrue(is_verdict(lib, "f", rule, verdict.certificate, **more))
            self.assertIs(bool(verdict), not broken)
            self.assertEqual(len(verdict), min([len(fates[kept]) for kept in broken], default=0))
            if broken:
                word, moves = verdict.certificate
                play = Play.of(lib, moves, strict=more["strict"])
                self.assertEqual([word, play.is_over, play.call_names(), len(moves)], ["breaks", True, ["f"], len(verdict)])
                self.assertIn(play.kept_by(0), broken)
                self.assertTrue(is_silent(moves) or not more["silent"])
            else:
                self.assertEqual(verdict.certificate, ("holds", Table(lib, names=["f"], **more).certificate))
                held += 1
        self.assertGreater(held, 20)
        self.assertLess(held, 130)

    def test_all_sets(self):
        lib = library("maybe", "  write a", "maybe", "  write b", "maybe", "  write c")
        self.assertEqual(Fates(lib, "f").sets(), sorted(subsets(("a", "b", "c"))))


if __name__ == "__main__":
    unittest.main()
