"""The lines of a library, what may follow what, and which line is told as the first wrong one."""

import itertools
import random
import unittest

from innercommits.errors import BadLibrary, Endless, TooMany
from innercommits.modes import Mode
from innercommits.texts import Library
from tests.helpers import NO_WORDS
from tests.library_model import Writer, first_wrong

SIMPLE = ("pass", "doom", "write a", "raise e", "call g")
LEADING = ("maybe", "repeat", "block join", "block inner keep e", "block apart keep e f e")
WRONG_LINES = (
    "", "nothing", "Pass", "pass pass", "doom now", "write", "write a b", "write A", "write a1",
    "write abcdefghi", "raise", "raise e f", "raise E", "call", "call f g", "call F", "block",
    "block nested", "block JOIN", "block keep", "block join keep", "block join e", "block join keeps e",
    "block keep e join", "block join keep E", "block join keep e,f", "block join  keep e",
    "block join keep  e", "maybe not", "repeat twice", "try again", "try:", "except E", "finally a",
    "function g", "function", "else", "return", "write  a", "write a ", "pass ", "write\ta", "write-a",
    "write \u00e4", "write a\r", "pass\x0b",
)


def number_of(text):
    """The line that BadLibrary tells of the text, None if the text is right."""
    try:
        Library(text)
    except BadLibrary as error:
        return error.line
    return None


def nested(deep, *lines):
    """A library whose last line of so deep a nesting is followed by these."""
    openers = ["  " * n + "block join" for n in range(1, deep)]
    return "\n".join(["function f", *openers, *["  " * deep + line for line in lines]])


class LineTest(unittest.TestCase):
    def test_simple_statements_at_each_nesting(self):
        for line, deep in itertools.product(SIMPLE, range(1, 9)):
            self.assertIsNone(number_of(nested(deep, line)), (line, deep))
        for line in SIMPLE:
            self.assertEqual(number_of(line), 0)
            self.assertEqual(number_of(nested(1, "pass") + "\n" + line), 2)

    def test_leading_statements_at_each_nesting(self):
        for line, deep in itertools.product(LEADING, range(1, 8)):
            self.assertIsNone(number_of(nested(deep, line, "  pass")), (line, deep))
            self.assertEqual(number_of(nested(deep, line)), deep + 1, (line, deep))
        for deep in range(1, 8):
            self.assertIsNone(number_of(nested(deep, "try", "  pass", "except", "  pass")))
            self.assertIsNone(number_of(nested(deep, "try", "  pass", "finally", "  pass")))

    def test_a_line_that_a_body_follows_is_wrong_at_nesting_eight(self):
        for line in LEADING + ("try",):
            self.assertEqual(number_of(nested(8, line)), 8, line)
            self.assertEqual(number_of(nested(8, line, "  pass")), 8, line)
        self.assertEqual(number_of(nested(8, "pass", "  pass")), 9)

    def test_each_mode(self):
        for mode in Mode.ALL:
            self.assertIsNone(number_of(f"function f\n  block {mode}\n    pass"))
            self.assertIsNone(number_of(f"function f\n  block {mode} keep {mode}\n    pass"))

    def test_lines_that_are_none(self):
        for line in WRONG_LINES:
            text = "function f\n  pass\n  " + line
            self.assertEqual(number_of(text), 2, repr(line))
            self.assertEqual(number_of(text + "\n  pass"), 2, repr(line))

    def test_spaces_and_tabs(self):
        for line in (" pass", "   pass", "\tpass", " \tpass", "pass", "    pass", "  pass ", "  \tpass"):
            self.assertEqual(number_of("function f\n" + line), 1, repr(line))
        for line in (" function f", "  function f", "function  f", "function f ", "\tfunction f", "function\tf"):
            self.assertEqual(number_of(line + "\n  pass"), 0, repr(line))

    def test_empty_lines_and_line_feeds(self):
        self.assertEqual(number_of(""), 0)
        self.assertEqual(number_of("\n"), 0)
        self.assertEqual(number_of("\nfunction f\n  pass"), 0)
        self.assertEqual(number_of("function f\n\n  pass"), 1)
        self.assertEqual(number_of("function f\n  pass\n"), 2)
        self.assertEqual(number_of("function f\n  pass\n\n"), 2)
        self.assertEqual(number_of("function f\n  pass\n\nfunction g\n  pass"), 2)
        self.assertEqual(number_of("function f\n  pass\n  "), 2)
        self.assertEqual(number_of("function f\r\n  pass"), 0)

    def test_words_that_are_names_of_statements(self):
        words = ("write", "doom", "function", "call", "keep", "except", "finally", "try", "join", "pass")
        for word in words:
            text = (f"function {word}\n  write {word}\n  try\n    raise {word}\n  except {word} {word}\n"
                    f"    block join keep {word} {word}\n      maybe\n        call {word}")
            library = Library(text)
            self.assertEqual([library.functions(), library.records()], [[word], [word]])
            self.assertIn(word, library.errors())


class FollowTest(unittest.TestCase):
    def test_bodies_are_one_deeper(self):
        self.assertEqual(number_of("function f"), 1)
        self.assertEqual(number_of("function f\nfunction g\n  pass"), 1)
        self.assertEqual(number_of("function f\n    pass"), 1)
        self.assertEqual(number_of("function f\n  maybe\n  write a"), 2)
        self.assertEqual(number_of("function f\n  maybe\nfunction g\n  pass"), 2)
        self.assertEqual(number_of("function f\n  maybe\n      pass"), 2)
        self.assertEqual(number_of("function f\n  pass\n    pass"), 2)
        self.assertIsNone(number_of("function f\n  maybe\n    maybe\n      pass\n    pass\n  pass"))
        self.assertIsNone(number_of("function f\n  maybe\n    maybe\n      pass\n  pass\nfunction g\n  pass"))

    def test_no_two_functions_of_one_name(self):
        self.assertEqual(number_of("function f\n  pass\nfunction f\n  pass"), 2)
        self.assertEqual(number_of("function f\n  pass\nfunction g\n  pass\nfunction f"), 4)
        self.assertIsNone(number_of("function f\n  pass\nfunction g\n  pass"))

    def test_what_stands_behind_try(self):
        start = "function f\n  try\n    pass\n"
        for line in ("  pass", "  maybe", "  try", "function g"):
            self.assertEqual(number_of(start + line), 3, line)
            self.assertEqual(number_of(start + "    pass\n" + line), 4, line)
        self.assertEqual(number_of("function f\n  try"), 2)
        self.assertEqual(number_of("function f\n  try\n  except\n    pass"), 2)
        self.assertEqual(number_of("function f\n  try\n  finally\n    pass"), 2)
        self.assertEqual(number_of("function f\n  try\n    pass"), 3)
        self.assertEqual(number_of(start + "    except\n      pass"), 3)
        self.assertEqual(number_of("function f\n  maybe\n    try\n      pass\n  except\n    pass"), 4)
        self.assertEqual(number_of("function f\n  maybe\n    try\n      pass\n  pass"), 4)

    def test_handlers_and_finally(self):
        start = "function f\n  try\n    pass\n"
        one, bare, last = "  except e\n    pass\n", "  except\n    pass\n", "  finally\n    pass\n"
        right = (one, bare, last, one + one, one + bare, one + last, bare + last, one * 3 + bare + last)
        for parts in right:
            self.assertIsNone(number_of((start + parts)[:-1]), parts)
            self.assertIsNone(number_of((start + parts) + "  pass"), parts)
        wrong = ((bare + one, 5), (bare + bare, 5), (last + one, 5), (last + bare, 5), (last + last, 5),
                 (one + bare + bare, 7), (one + last + one, 7), (bare + last + last, 7))
        for parts, line in wrong:
            self.assertEqual(number_of((start + parts)[:-1]), line, parts)
        for head in ("  except e", "  except", "  finally"):
            self.assertEqual(number_of(start + head), 4)
            self.assertEqual(number_of(start + head + "\n  pass"), 4)

    def test_handlers_belong_to_a_try_of_their_nesting(self):
        for line in ("except", "except e", "finally"):
            for before in ("function f\n", "function f\n  pass\n", "function f\n  maybe\n    pass\n",
                           "function f\n  block join\n    pass\n", "function f\n  repeat\n    pass\n",
                           "function f\n  try\n    pass\n  except e\n    pass\n  pass\n"):
                text = before + "  " + line
                self.assertEqual(number_of(text), before.count("\n"), text)
            self.assertEqual(number_of(line), 0)
            self.assertEqual(number_of("function f\n  pass\n" + line), 2)
        self.assertIsNone(number_of(
            "function f\n  try\n    try\n      pass\n    except e\n      pass\n  except e\n    pass"))
        self.assertEqual(number_of(
            "function f\n  try\n    try\n      pass\n  except e\n    pass\n    except e\n      pass"), 4)


class OrderTest(unittest.TestCase):
    def test_what_is_no_string(self):
        for thing in NO_WORDS + [["function f", "  pass"], ("function f\n  pass",), b"function f\n  pass"]:
            if not isinstance(thing, str):
                self.assertEqual(number_of(thing), -1, thing)

    def test_too_many_characters_come_first(self):
        for text in ("a" * 6001, "\n" * 6001, "function f\n  pass" + "\n  pass" * 1000, "\u00e4" * 7000):
            with self.assertRaises(TooMany) as caught:
                Library(text)
            self.assertEqual(caught.exception.what, "characters")
        self.assertEqual(number_of("a" * 6000), 0)
        self.assertEqual(number_of("\n" * 6000), 0)

    def test_a_text_of_6000_characters(self):
        start, rest = "function f\n  block join keep ", "\n    pass"
        room = 6000 - len(start) - len(rest)
        many, left = divmod(room - 4, 3)
        text = start + "late" + "x" * left + " ee" * many + rest
        self.assertEqual(len(text), 6000)
        self.assertEqual(str(Library(text)), text)
        with self.assertRaises(TooMany) as caught:
            Library(text.replace("late", "later"))
        self.assertEqual(caught.exception.what, "characters")

    def test_a_wrong_line_comes_ahead_of_bounds_and_endless_calls(self):
        text = "function f\n  call f\n" + "  pass\n" * 90 + "  wrong"
        self.assertEqual(number_of(text), 92)
        with self.assertRaises(TooMany) as caught:
            Library(text.replace("  wrong", "  pass"))
        self.assertEqual(caught.exception.what, "statements")
        with self.assertRaises(Endless):
            Library("function f\n  call f")


class ChanceTest(unittest.TestCase):
    def test_the_first_wrong_line_is_that_of_the_grammar(self):
        chance = random.Random(11)
        writer = Writer(chance)
        told = []
        for _ in range(2500):
            text = writer.library(4)
            for _ in range(chance.randrange(3)):
                text = self.spoilt(chance, text)
            if len(text) > 6000:
                continue
            wrong = first_wrong(text)
            try:
                found = number_of(text)
            except (TooMany, Endless):
                found = None
            self.assertEqual(found, wrong, text)
            told.append(wrong)
        self.assertGreater(told.count(None), 500)
        self.assertGreater(len(told) - told.count(None), 1000)

    def spoilt(self, chance, text):
        lines = text.split("\n")
        at = chance.randrange(len(lines))
        how = chance.randrange(6)
        if how == 0:
            del lines[at]
        elif how == 1:
            lines.insert(at, lines[chance.randrange(len(lines))])
        elif how == 2:
            lines[at] = "  " + lines[at]
        elif how == 3:
            lines[at] = lines[at][2:]
        elif how == 4:
            other = chance.randrange(len(lines))
            lines[at], lines[other] = lines[other], lines[at]
        else:
            return "\n".join(lines[:at])
        return "\n".join(lines)


if __name__ == "__main__":
    unittest.main()
