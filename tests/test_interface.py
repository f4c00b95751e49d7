"""The names, parameters and places that the document's interface lists."""

import inspect
import unittest

from innercommits import callers, database, fates, likeness, looker, mending, modes, plays, rules, tables, texts, waiting
from innercommits.callers import Run
from innercommits.database import Database
from innercommits.fates import Fates, Verdict, judge
from innercommits.likeness import Likeness, alike, is_likeness
from innercommits.looker import is_closed, is_verdict, is_waiting
from innercommits.mending import come_true, mends
from innercommits.modes import Mode, is_word
from innercommits.plays import Play
from innercommits.rules import Rule
from innercommits.tables import Table, entry_cases
from innercommits.texts import Library
from innercommits.waiting import SelfWaits

PLACES = [
    (Database, database), (Mode, modes), (is_word, modes), (Rule, rules), (Library, texts), (Play, plays),
    (Run, callers), (entry_cases, tables), (Table, tables), (judge, fates), (Fates, fates), (Verdict, fates),
    (SelfWaits, waiting), (is_closed, looker), (is_verdict, looker), (is_waiting, looker),
    (come_true, mending), (mends, mending), (alike, likeness), (Likeness, likeness), (is_likeness, likeness),
]
FUNCTIONS = {
    is_word: "(thing)", entry_cases: "(records, *, silent=False)",
    judge: "(library, name, rule, *, strict=False, silent=False)",
    is_closed: "(library, thing, *, names=None, records=None, strict=False, silent=False)",
    is_verdict: "(library, name, rule, thing, *, strict=False, silent=False)",
    is_waiting: "(library, name, thing, *, strict=False)",
    come_true: "(library, wishes, *, strict=False, silent=False)",
    mends: "(library, wishes, *, strict=False, silent=False)",
    alike: "(one, other, *, strict=False, other_strict=False, silent=False)",
    is_likeness: "(one, other, thing, *, strict=False, other_strict=False, silent=False)",
}
METHODS = {
    Database: {
        "enter": "(self, mode)", "leave": "(self, error=None, *, commits=True)",
        "doom": "(self, first='doom')", "held_records": "(self)", "outer_records": "(self)",
        "kept_values": "(self)", "fates": "(self)",
        "within": "(self, mode, deed, *, keep=(), commits=True)",
    },
    Rule: {"records": "(self)", "__call__": "(self, kept)"},
    Library: {
        "functions": "(self)", "records": "(self)", "errors": "(self)", "unknown": "(self)",
        "blocks": "(self)", "changed": "(self, changes)",
    },
    Play: {
        "move": "(self, move)", "call_names": "(self)", "is_ended": "(self, number)",
        "case_of": "(self, number)", "face_of": "(self, number)", "length_of": "(self, number)",
        "kept_by": "(self, number)", "writes": "(self)", "waits": "(self)",
    },
    Table: {"faces": "(self, name, case)", "way": "(self, name, case, face)"},
    Fates: {"sets": "(self)"},
    SelfWaits: {"records": "(self)", "way": "(self, record)"},
}
STATIC = {
    Mode: {"is_mode": "(thing)"},
    Rule: {"has": "(record)", "together": "(*records)", "always": "()"},
    Library: {"joined": "(*libraries)"},
    Play: {"of": "(library, moves, *, strict=False, records=None)"},
}
OPERATORS = {
    Database: ("__setitem__", "__getitem__", "__contains__"),
    Rule: ("__and__", "__or__", "__invert__", "__rshift__", "__eq__", "__str__"),
    Library: ("__len__", "__contains__", "__getitem__", "__str__", "__eq__"),
    Table: ("__len__", "__contains__"), Fates: ("__len__", "__contains__", "__getitem__"),
    Verdict: ("__bool__", "__len__"), SelfWaits: ("__len__",), Likeness: ("__bool__", "__len__"),
}
PROPERTIES = {
    Database: ("is_open", "is_doomed", "reason", "levels", "depth"),
    Play: ("moves", "asked", "is_over", "depth"),
}
CLASSES = {
    Database: "()", Library: "(text)", Play: "(library, *, strict=False, records=None)",
    Run: "(library, caller, start, answers, *, strict=False)",
    Table: "(library, *, names=None, records=None, strict=False, silent=False)",
    Fates: "(library, name, *, strict=False, silent=False)",
    SelfWaits: "(library, name, *, strict=False)",
}


class InterfaceTest(unittest.TestCase):
    def test_defined_where_they_are_listed(self):
        for thing, module in PLACES:
            self.assertEqual(thing.__module__, module.__name__)

    def test_methods_stand_in_the_class_itself(self):
        for owner, methods in METHODS.items():
            for name, parameters in methods.items():
                self.assertEqual(str(inspect.signature(vars(owner)[name])), parameters, (owner, name))
        for owner, methods in STATIC.items():
            for name, parameters in methods.items():
                self.assertIsInstance(vars(owner)[name], staticmethod, (owner, name))
                self.assertEqual(str(inspect.signature(getattr(owner, name))), parameters, (owner, name))
        for owner, names in OPERATORS.items():
            for name in names:
                self.assertIn(name, vars(owner))
        for owner, names in PROPERTIES.items():
            for name in names:
                self.assertIsInstance(vars(owner)[name], property, (owner, name))

    def test_generators(self):
        for method in (Database.fates, Play.writes, Play.waits):
            self.assertTrue(inspect.isgeneratorfunction(method))

    def test_how_objects_are_made(self):
        for owner, parameters in CLASSES.items():
            self.assertEqual(str(inspect.signature(owner)), parameters)
        for function, parameters in FUNCTIONS.items():
            self.assertEqual(str(inspect.signature(function)), parameters)

    def test_attributes_are_set_when_objects_are_made(self):
        library = Library("function f\n  write a")
        run = Run(library, Library("function s\n  call f"), "s", ["yes"])
        self.assertIsInstance(vars(run)["whole"], Play)
        self.assertIsInstance(vars(run)["alone"], Play)
        self.assertEqual(vars(run)["end"], "")
        for thing in (Table(library), judge(library, "f", Rule.has("a")), SelfWaits(library, "f"), alike(library, library)):
            self.assertIsInstance(vars(thing)["certificate"], tuple)

    def test_objects_are_equal_to_nothing_of_another_class(self):
        library = Library("function f\n  write a")
        for thing in (Table(library), Fates(library, "f"), judge(library, "f", Rule.has("a")), SelfWaits(library, "f"),
                      alike(library, library)):
            for other in (None, 0, "", (), thing.certificate if hasattr(thing, "certificate") else [], library):
                self.assertFalse(thing == other)


if __name__ == "__main__":
    unittest.main()
