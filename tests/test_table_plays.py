"""Tables beside the plain model of 30, and beside plays: point 3 and point 31."""

import random
import unittest

from innercommits.fates import Fates, judge
from innercommits.looker import is_closed
from innercommits.plays import Play
from innercommits.rules import Rule
from innercommits.tables import Table, entry_cases
from innercommits.texts import Library
from tests.explorer import Explorer, ended_with_last, some_library
from tests.helpers import library
from tests.table_model import TableModel
from tests.test_play_model import some_move

WORDS = ("return", "raise late", "raise odd", "raise waits", "raise doomed", "raise refused", "raise missing",
         "raise present", "doom", "write a", "write b", "enter join", "enter apart", "enter inner", "enter outside",
         "leave", "leave late")


def before_call(case):
    """The number of moves that are needed before a call in a case."""
    state, outer, held = case
    blocks = (2 if state == "none" or outer else 1) if outer or state != "none" else 0
    return blocks + len(outer) + len(held) + (state == "doomed")


class WayTest(unittest.TestCase):
    def check_ways(self, lib, table, **more):
        """Each way of the table ends with its face, and has as many moves as it should have."""
        silent = more.pop("silent", False)
        for (name, case), faces in table.certificate:
            for face, number in faces:
                way = table.way(name, case, face)
                self.assertIsInstance(way, tuple)
                play = Play.of(lib, way, **more)
                self.assertEqual([play.call_names(), play.case_of(0), play.face_of(0)], [[name], case, face], way)
                self.assertEqual(play.length_of(0), number)
                self.assertEqual(len(way), before_call(case) + 1 + number)
                self.assertTrue(ended_with_last(play))
                if silent:
                    written = [move for move in way if move.startswith("write ")]
                    self.assertEqual(way[:before_call(case)].count("doom"), int(case[0] == "doomed"))
                    self.assertEqual(len(written), len(case[1] + case[2]))
                    self.assertEqual([move for move in way[before_call(case):] if move.startswith("write ")], [])

    def test_ways_of_libraries_by_chance(self):
        chance = random.Random(3)
        for number in range(60):
            text = some_library(chance, chance.randint(2, 5))
            lib = Library(text)
            more = {"strict": number % 2 == 0, "records": sorted(set(lib.records()) | set(
                chance.choice((["z"], [])) if len(lib.records()) < 3 else []))}
            silent = number % 3 == 0
            self.check_ways(lib, Table(lib, silent=silent, **more), silent=silent, **more)

    def test_words_that_no_line_mentions(self):
        lib = Library("function odd\n  call oddaaa\n  call g\nfunction oddaab\n  try\n    raise oddaac\n  except\n    pass")
        for silent in (False, True):
            self.check_ways(lib, Table(lib, silent=silent), silent=silent)
        way = Table(lib).way("odd", ("none", (), ()), ("?", False, (), (), ()))
        self.assertNotIn(way[-1].split()[1], str(lib).split())

    def test_no_shorter_moves_lead_to_a_case(self):
        lib = library("write a", "write b")
        found = {}
        words = ("enter join", "enter apart", "enter outside", "write a", "write b", "doom")
        for play in Explorer(lib, "f", words, 6).plays():
            if play.call_names() and play.moves[-1] == "call f":
                case = play.case_of(0)
                found[case] = min(found.get(case, 99), len(play.moves) - 1)
        self.assertEqual(found, {case: before_call(case) for case in entry_cases(["a", "b"])
                                 if before_call(case) <= 5})

    def test_no_shorter_play_without_unknown_functions(self):
        chance = random.Random(8)
        for number in range(60):
            lib = Library(some_library(chance, chance.randint(2, 4), called=("f", "g"), records=("a", "b")))
            strict = number % 2 == 0
            table = Table(lib, strict=strict)
            for name, case in [place for place, _ in table.certificate][::5]:
                start = Table(lib, strict=strict).way(name, case, table.faces(name, case)[0][0])[:before_call(case) + 1]
                found = {}
                for play in Explorer(lib, name, (), len(start) + 6, strict=strict).plays(start):
                    if ended_with_last(play):
                        face = play.face_of(0)
                        found[face] = min(found.get(face, 99), play.length_of(0))
                self.assertEqual(found, {face: many for face, many in table.faces(name, case) if many <= 6})

    def test_no_shorter_play_with_unknown_functions(self):
        for lines in (("call u", "write a"), ("write a", "call u", "block apart", "  write b"),
                      ("block inner", "  call u"), ("block apart keep late", "  call u", "  raise late")):
            lib = library(*lines)
            for strict in (False, True):
                table = Table(lib, records=["a", "b"], strict=strict)
                for case in (("none", (), ()), ("open", (), ()), ("doomed", (), ()), ("open", ("b",), ("a",))):
                    start = table.way("f", case, table.faces("f", case)[0][0])[:before_call(case) + 1]
                    found = {}
                    explorer = Explorer(lib, "f", WORDS, len(start) + 3, strict=strict, records=["a", "b"])
                    for play in explorer.plays(start):
                        if ended_with_last(play):
                            face = play.face_of(0)
                            found[face] = min(found.get(face, 99), play.length_of(0))
                    self.assertEqual(found, {face: many for face, many in table.faces("f", case) if many <= 3})


class DrawnTest(unittest.TestCase):
    def test_calls_of_drawn_plays_are_in_the_table(self):
        chance = random.Random(21)
        ended = 0
        for number in range(150):
            lib = Library(some_library(chance, chance.randint(2, 5), called=("f", "g", "h")))
            strict = number % 2 == 0
            table = Table(lib, strict=strict)
            play = Play(lib, strict=strict)
            for _ in range(120):
                move = some_move(chance, play.asked)
                try:
                    play.move(move)
                except ValueError:
                    continue
            while not play.is_over:
                if play.asked != ("caller",):
                    play.move(chance.choice(("yes", "yes", "yes", "no")) if len(play.moves) < 250 else "no")
                else:
                    play.move(chance.choice(("leave", "leave", "leave odd")) if play.depth else "return")
            fates = {name: Fates(lib, name, strict=strict) for name in lib.functions()}
            rule = chance.choice((Rule.together("a", "b"), Rule.has("a") >> Rule.has("c"), ~Rule.has("b")))
            holds = {name: bool(judge(lib, name, rule, strict=strict)) for name in lib.functions()}
            for call, name in enumerate(play.call_names()):
                self.assertIn(play.kept_by(call), fates[name])
                self.assertTrue(rule(play.kept_by(call)) or not holds[name])
                self.assertIn((name, play.case_of(call)), table)
                faces = dict(table.faces(name, play.case_of(call)))
                self.assertIn(play.face_of(call), faces, (str(lib), play.moves))
                self.assertGreaterEqual(play.length_of(call), faces[play.face_of(call)])
                ended += 1
        self.assertGreater(ended, 1000)

    def silent_play(self, chance, lib, strict):
        """A play of a silent caller that is over, with a call of f."""
        play = Play(lib, strict=strict)
        for move in chance.choice(((), ("enter join",), ("enter join", "doom"), ("enter join", "enter outside"),
                                   ("enter alone", "enter inner"), ("enter join", "enter apart", "doom"))):
            play.move(move)
        play.move("call f")
        while not play.is_over:
            if play.asked != ("caller",):
                # Functions that call one another would go on for ever otherwise.
                play.move(chance.choice(("yes", "yes", "yes", "no")) if len(play.moves) < 60 else "no")
                continue
            words = ["leave", "leave odd"] if play.depth else ["return", "raise late", "raise odd", "raise refused"]
            if not play.is_ended(0) and len(play.moves) < 60 and chance.random() < 0.3:
                words = ["doom", "enter join", "enter inner", "enter apart", "enter outside"]
            try:
                play.move(chance.choice(words))
            except ValueError:
                continue
        return play

    def test_plays_of_silent_callers_are_in_the_table(self):
        chance = random.Random(22)
        for number in range(150):
            lib = Library(some_library(chance, chance.randint(2, 5), called=("f", "g", "h")))
            strict = number % 2 == 0
            table = Table(lib, names=["f"], strict=strict, silent=True)
            fates = Fates(lib, "f", strict=strict, silent=True)
            for _ in range(8):
                play = self.silent_play(chance, lib, strict)
                faces = dict(table.faces("f", play.case_of(0)))
                self.assertIn(play.face_of(0), faces, (str(lib), play.moves))
                self.assertGreaterEqual(play.length_of(0), faces[play.face_of(0)])
                self.assertIn(play.kept_by(0), fates)


class ModelTest(unittest.TestCase):
    def test_tables_by_chance(self):
        chance = random.Random(4)
        for _ in range(400):
            names = chance.choice((("f",), ("f", "g"), ("f", "g", "h")))
            text = some_library(chance, chance.randint(2, 6), called=("f", "g", "h", "u"), names=names)
            lib = Library(text)
            records = lib.records() + (["z"] if len(lib.records()) < 3 and chance.random() < 0.5 else [])
            more = {"strict": chance.random() < 0.5, "silent": chance.random() < 0.4}
            asked = chance.choice((None, ["f"], lib.functions()[::-1]))
            table = Table(lib, names=asked, records=records[::-1], **more)
            model = TableModel(text, sorted(records), **more).solve(asked or lib.functions())
            self.assertEqual(table.certificate, model, text)
            self.assertTrue(is_closed(lib, table.certificate, names=asked, records=records, **more))
            given = {place: dict(faces) for place, faces in table.certificate}
            self.assertTrue(TableModel(text, sorted(records), table=given, **more).is_closed())


if __name__ == "__main__":
    unittest.main()
