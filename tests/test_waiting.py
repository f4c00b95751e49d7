"""Calls that wait for themselves: 34."""

import random
import unittest

from innercommits.errors import NoRecord
from innercommits.looker import is_closed, is_waiting
from innercommits.plays import Play
from innercommits.tables import Table
from innercommits.texts import Library
from innercommits.waiting import SelfWaits
from tests.explorer import Explorer, some_library
from tests.helpers import library, told_error

WORDS = ("enter join", "enter inner", "enter apart", "doom", "return", "raise late", "raise odd", "leave", "leave odd")
MODES = ("join", "apart", "outside", "join", "apart", "inner", "must")


class SelfWaitsTest(unittest.TestCase):
    def check(self, lines, expected, **more):
        """The records with the numbers of moves."""
        lib = library(*lines)
        found = SelfWaits(lib, "f", **more)
        self.assertEqual({record: len(found.way(record)) for record in found.records()}, expected)
        self.assertEqual(len(found), len(expected))
        self.check_certificate(lib, "f", found, **more)
        return found

    def check_certificate(self, lib, name, found, strict=False):
        pairs, rows = found.certificate
        self.assertEqual([pair[0] for pair in pairs], sorted(found.records()))
        self.assertEqual(pairs, tuple((record, found.way(record)) for record in found.records()))
        self.assertEqual(rows, Table(lib, names=[name], strict=strict, silent=True).certificate)
        self.assertTrue(is_closed(lib, rows, names=[name], strict=strict, silent=True))
        self.assertTrue(is_waiting(lib, name, found.certificate, strict=strict))
        for record, moves in pairs:
            self.assertIsInstance(moves, tuple)
            play = Play.of(lib, moves, strict=strict)
            self.assertIn((0, record), list(play.waits()))
            self.assertEqual([play.call_names(), [move for move in moves if move.startswith("write ")]], [[name], []])
            self.assertNotIn((0, record), list(Play.of(lib, moves[:-1], strict=strict).waits()))

    def test_example_of_the_document(self):
        found = SelfWaits(library("block join", "  write a", "  block apart", "    write a"), "f")
        self.assertEqual([found.records(), found.way("a")], [["a"], ("call f", "yes")])

    def test_none(self):
        for strict in (False, True):
            self.check(["write a", "write b"], {}, strict=strict)
            self.check(["block apart", "  write a", "write a"], {}, strict=strict)
            self.check(["block join", "  block apart", "    write a", "  write a"], {}, strict=strict)
            # Only callers that write can make these wait.
            self.check(["block apart", "  write a", "call g", "write a"], {}, strict=strict)
            self.assertEqual(SelfWaits(library("pass"), "f", strict=strict).certificate[0], ())

    def test_within_and_behind_blocks(self):
        self.check(["write a", "block apart", "  write a"], {"a": 4 - 1})
        self.check(["write a", "block outside", "  write a"], {"a": 3})
        self.check(["block join", "  write a", "  block outside", "    block join", "      write a"], {"a": 2})
        self.check(["block must", "  write b", "  write a", "  block apart", "    try", "      write a", "    except waits",
                    "      write b"], {"a": 4, "b": 4})
        self.check(["block join", "  write a", "  block inner", "    write b", "  maybe", "    block apart",
                    "      write b", "      write a"], {"b": 4})
        self.check(["block join", "  write a", "  block inner", "    write b", "  maybe", "    block apart", "      try",
                    "        write b", "      finally", "        write a"], {"a": 4, "b": 4})
        # What has been undone is not held any more.
        self.check(["block join", "  try", "    block inner", "      write a", "      raise late", "  except late",
                    "    block apart", "      write a"], {})

    def test_strict(self):
        lines = ["block join", "  write b", "  try", "    write a", "  except refused", "    block apart", "      write b"]
        self.check(lines, {"b": 3})
        self.check(lines, {"b": 3}, strict=True)
        lines = ["block join", "  write b", "  try", "    write a", "  except refused", "    block inner",
                 "      block apart", "        write b"]
        self.check(lines, {"b": 3})
        self.check(lines, {}, strict=True)

    def test_calls_of_functions(self):
        lib = Library("function f\n  block join\n    write a\n    call g\n  call g\nfunction g\n  block apart\n    call h\n"
                      "function h\n  maybe\n    write a")
        found = SelfWaits(lib, "f")
        self.assertEqual([found.records(), found.way("a")], [["a"], ("call f", "yes", "yes")])
        self.check_certificate(lib, "f", found)
        for name in ("g", "h"):
            self.assertEqual(SelfWaits(lib, name).records(), [])

    def test_rings_and_unknown_functions(self):
        lib = Library("function f\n  block apart\n    maybe\n      write a\n    call u\n    maybe\n      call f")
        found = SelfWaits(lib, "f")
        self.assertEqual([found.records(), len(found.way("a"))], [["a"], 6])
        self.check_certificate(lib, "f", found)
        self.check(["try", "  call u", "except late", "  block join", "    write a", "    block apart", "      write a"],
                   {"a": 3})

    def test_wrong_records(self):
        found = SelfWaits(library("block join", "  write b", "  write a", "  block apart", "    write a"), "f")
        self.assertEqual(found.records(), ["a"])
        for thing in ("b", "c", "", "A", "a" * 3000, None, 0, 1, True, (), ("a",), ["a"], [["a"]], ("a", ("call f",))):
            with self.assertRaises(NoRecord) as caught:
                found.way(thing)
            self.assertEqual(caught.exception.record, thing)
            self.assertIs(type(caught.exception.record), type(thing))
        records = found.records()
        records.clear()
        self.assertEqual(found.records(), ["a"])

    def test_errors(self):
        many = Library("function f\n" + "\n".join(f"  write {record}" for record in "abcd") + "\n  pass" * 27)
        long = Library("function f\n  write a" + "\n  pass" * 30)
        for deed in (SelfWaits, lambda lib, name: is_waiting(lib, name, None)):
            self.assertEqual(told_error(deed, many, "g"), ("NoFunction", "g"))
            self.assertEqual(told_error(deed, many, "f"), ("TooMany", "records"))
            self.assertEqual(told_error(deed, long, "f"), ("TooMany", "statements"))

    def libraries(self, chance, many, **more):
        """Libraries by chance, and the records at which they wait, more of them with some."""
        found = []
        while len(found) < many:
            strict = len(found) % 2 == 0
            lib = Library(some_library(chance, chance.randint(3, 6), modes=MODES, **more))
            waits = SelfWaits(lib, "f", strict=strict)
            if waits.records() or chance.random() < 0.1:
                found.append((lib, strict, waits))
        return found

    def test_against_all_plays_of_silent_callers(self):
        some = 0
        for lib, strict, found in self.libraries(random.Random(31), 90, records=("a",), most=12):
            self.check_certificate(lib, "f", found, strict=strict)
            least = {}
            for play in Explorer(lib, "f", WORDS[:3] + WORDS[3:7], 5, strict=strict).plays():
                for call, record in play.waits():
                    least[record] = min(least.get(record, 99), len(play.moves))
            self.assertEqual(least, {record: len(found.way(record)) for record in found.records()
                                     if len(found.way(record)) <= 5}, str(lib))
            some += len(least)
        self.assertGreater(some, 5)

    def test_no_record_is_missing(self):
        chance = random.Random(32)
        waited = 0
        for lib, strict, found in self.libraries(chance, 60):
            self.check_certificate(lib, "f", found, strict=strict)
            for _ in range(30):
                play = Play(lib, strict=strict)
                for _ in range(chance.randint(0, 1)):
                    play.move("enter join")
                play.move("call f")
                while not play.is_ended(0):
                    play.move(chance.choice(("yes", "yes", "no")) if play.asked != ("caller",) else
                              chance.choice(("return", "raise late", "raise odd")))
                for call, record in play.waits():
                    self.assertIn(record, found.records())
                    waited += 1
        self.assertGreater(waited, 50)


if __name__ == "__main__":
    unittest.main()
