"""The names, parameters and places that the document's interface lists."""

import inspect
import unittest

from innercommits import database, modes
from innercommits.database import Database
from innercommits.modes import Mode, is_word

METHODS = {
    "enter": "(self, mode)", "leave": "(self, error=None, *, commits=True)",
    "doom": "(self, first='doom')", "held_records": "(self)", "outer_records": "(self)",
    "kept_values": "(self)", "fates": "(self)",
    "within": "(self, mode, deed, *, keep=(), commits=True)",
}


class InterfaceTest(unittest.TestCase):
    def test_defined_where_they_are_listed(self):
        self.assertEqual(Database.__module__, database.__name__)
        self.assertEqual([Mode.__module__, is_word.__module__], [modes.__name__] * 2)

    def test_methods_stand_in_the_class_itself(self):
        for name, parameters in METHODS.items():
            self.assertEqual(str(inspect.signature(vars(Database)[name])), parameters, name)
        for name in ("__setitem__", "__getitem__", "__contains__"):
            self.assertIn(name, vars(Database))
        for name in ("is_open", "is_doomed", "reason", "levels", "depth"):
            self.assertIsInstance(vars(Database)[name], property)
        self.assertTrue(inspect.isgeneratorfunction(Database.fates))
        self.assertEqual(str(inspect.signature(Database)), "()")

    def test_modes(self):
        self.assertIsInstance(vars(Mode)["is_mode"], staticmethod)
        self.assertEqual(str(inspect.signature(Mode.is_mode)), "(thing)")
        self.assertEqual(str(inspect.signature(is_word)), "(thing)")


if __name__ == "__main__":
    unittest.main()
