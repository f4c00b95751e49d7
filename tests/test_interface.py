"""The names, parameters and places that the document's interface lists."""

import inspect
import unittest

from innercommits import database, modes, plays, rules, texts
from innercommits.database import Database
from innercommits.modes import Mode, is_word
from innercommits.plays import Play
from innercommits.rules import Rule
from innercommits.texts import Library

PLACES = [(Database, database), (Mode, modes), (is_word, modes), (Rule, rules), (Library, texts), (Play, plays)]
METHODS = {
    Database: {
        "enter": "(self, mode)", "leave": "(self, error=None, *, commits=True)",
        "doom": "(self, first='doom')", "held_records": "(self)", "outer_records": "(self)",
        "kept_values": "(self)", "fates": "(self)",
        "within": "(self, mode, deed, *, keep=(), commits=True)",
    },
    Rule: {"records": "(self)", "__call__": "(self, kept)"},
    Library: {
        "functions": "(self)", "records": "(self)", "errors": "(self)", "unknown": "(self)",
        "blocks": "(self)", "changed": "(self, changes)",
    },
    Play: {
        "move": "(self, move)", "call_names": "(self)", "is_ended": "(self, number)",
        "case_of": "(self, number)", "face_of": "(self, number)", "length_of": "(self, number)",
        "kept_by": "(self, number)", "writes": "(self)", "waits": "(self)",
    },
}
STATIC = {
    Mode: {"is_mode": "(thing)"},
    Rule: {"has": "(record)", "together": "(*records)", "always": "()"},
    Library: {"joined": "(*libraries)"},
    Play: {"of": "(library, moves, *, strict=False, records=None)"},
}
OPERATORS = {
    Database: ("__setitem__", "__getitem__", "__contains__"),
    Rule: ("__and__", "__or__", "__invert__", "__rshift__", "__eq__", "__str__"),
    Library: ("__len__", "__contains__", "__getitem__", "__str__", "__eq__"),
}
PROPERTIES = {
    Database: ("is_open", "is_doomed", "reason", "levels", "depth"),
    Play: ("moves", "asked", "is_over", "depth"),
}
CLASSES = {
    Database: "()", Library: "(text)", Play: "(library, *, strict=False, records=None)",
}


class InterfaceTest(unittest.TestCase):
    def test_defined_where_they_are_listed(self):
        for thing, module in PLACES:
            self.assertEqual(thing.__module__, module.__name__)

    def test_methods_stand_in_the_class_itself(self):
        for owner, methods in METHODS.items():
            for name, parameters in methods.items():
                self.assertEqual(str(inspect.signature(vars(owner)[name])), parameters, (owner, name))
        for owner, methods in STATIC.items():
            for name, parameters in methods.items():
                self.assertIsInstance(vars(owner)[name], staticmethod, (owner, name))
                self.assertEqual(str(inspect.signature(getattr(owner, name))), parameters, (owner, name))
        for owner, names in OPERATORS.items():
            for name in names:
                self.assertIn(name, vars(owner))
        for owner, names in PROPERTIES.items():
            for name in names:
                self.assertIsInstance(vars(owner)[name], property, (owner, name))

    def test_generators(self):
        for method in (Database.fates, Play.writes, Play.waits):
            self.assertTrue(inspect.isgeneratorfunction(method))

    def test_how_objects_are_made(self):
        for owner, parameters in CLASSES.items():
            self.assertEqual(str(inspect.signature(owner)), parameters)
        self.assertEqual(str(inspect.signature(is_word)), "(thing)")


if __name__ == "__main__":
    unittest.main()
