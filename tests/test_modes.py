import unittest

from innercommits.modes import Mode, is_word
from tests.helpers import NO_WORDS

ORDER = ("join", "inner", "apart", "must", "either", "never", "outside", "alone")


class WordTest(unittest.TestCase):
    def test_words(self):
        letters = "abcdefghijklmnopqrstuvwxyz"
        words = list(letters) + ["ab", "abcdefgh", "zzzzzzzz", "write", "doom", "join", "block"]
        for word in words + [letters[at:at + 8] for at in range(18)]:
            with self.subTest(word):
                self.assertIs(is_word(word), True)

    def test_lengths(self):
        self.assertEqual([is_word("a" * many) for many in range(11)], [False] + [True] * 8 + [False] * 2)

    def test_another_sign_at_any_place(self):
        others = [chr(code) for code in range(128) if not 97 <= code <= 122] + ["\u00e9", "\u0430"]
        for other in others:
            for size in (1, 2, 8):
                for at in range(size):
                    text = "a" * at + other + "a" * (size - at - 1)
                    self.assertIs(is_word(text), False, repr(text))

    def test_no_words(self):
        for thing in NO_WORDS:
            with self.subTest(repr(thing)[:40]):
                self.assertIs(is_word(thing), False)

    def test_by_name(self):
        self.assertIs(is_word(thing="late"), True)


class ModeTest(unittest.TestCase):
    def test_all_and_its_order(self):
        self.assertEqual(Mode.ALL, ORDER)
        self.assertIsInstance(Mode.ALL, tuple)

    def test_class_values(self):
        values = (Mode.JOIN, Mode.INNER, Mode.APART, Mode.MUST)
        self.assertEqual(values + (Mode.EITHER, Mode.NEVER, Mode.OUTSIDE, Mode.ALONE), ORDER)

    def test_modes(self):
        for mode in ORDER:
            self.assertIs(Mode.is_mode(mode), True)
            self.assertIs(Mode.is_mode(thing=mode), True)

    def test_no_modes(self):
        near = [changed for mode in ORDER for changed in (
            mode[1:], mode[:-1], mode + "s", " " + mode, mode + " ", mode + "\n", mode.upper(),
            mode.capitalize(), "x" + mode[1:], (mode,), [mode])]
        for thing in near + NO_WORDS + [ORDER, list(ORDER), "join inner", "nested", "doom"]:
            with self.subTest(repr(thing)[:40]):
                self.assertIs(Mode.is_mode(thing), False)


if __name__ == "__main__":
    unittest.main()
