"""Plays beside a plain model of the document, over many libraries and many moves by chance."""

import random
import unittest

from innercommits.errors import Endless, TooMany
from innercommits.modes import Mode
from innercommits.plays import Play
from innercommits.texts import Library
from tests.helpers import play_told
from tests.library_model import Writer
from tests.play_model import PlayModel

STRANGE = ("", "maybe", "yes ", "enter", "enter a", "leave A", "write", "call a b", "raise", "return a", 7, None)


def do(play, move):
    """What the move returns, or the error with its field."""
    try:
        return play.move(move)
    except ValueError as error:
        fields = [field for name, field in vars(error).items() if name != "word"]
        return (type(error).__name__, *fields)


def some_move(chance, asked):
    """A move, which mostly fits what is asked."""
    dice = chance.random()
    if dice < 0.02:
        return chance.choice(STRANGE)
    if (asked == ("caller",)) == (dice < 0.05):
        return "yes" if chance.random() < 0.7 else "no"
    kind = chance.choice(("enter", "enter", "leave", "leave", "leave e", "write", "doom", "call", "call", "call",
                          "return", "return", "raise"))
    words = {"enter": Mode.ALL, "leave e": ("late", "odd"), "write": ("a", "b", "c", "z"),
             "call": ("f", "g", "h"), "raise": ("late", "bad", "odd", "doomed")}
    if kind not in words:
        return kind
    return f"{kind.split()[0]} {chance.choice(words[kind])}"


class PlayModelTest(unittest.TestCase):
    def libraries(self, chance, many):
        found = []
        while len(found) < many:
            writer = Writer(chance, records=("a", "b", "a", "b", "d"))
            text = writer.library(chance.randint(2, 6))
            try:
                Library(text)
            except (Endless, TooMany):
                continue
            found.append(text)
        return found

    def check_ends(self, play):
        """Point 32: what is kept of a call in the end agrees with its face."""
        for number in range(len(play.call_names())):
            _, doomed, _, kept, pending = play.face_of(number)
            most = kept if doomed else tuple(sorted(kept + pending))
            self.assertIn(play.kept_by(number), (kept, most))
        self.assertNotIn("open", [fate for _, _, fate in play.writes()])

    def walk(self, chance, text, strict, records, many):
        library = Library(text)
        play = Play(library, strict=strict, records=records)
        model = PlayModel(text, strict, library.records() if records is None else records)
        over = 0
        for _ in range(many):
            move = some_move(chance, play.asked)
            self.assertEqual(do(play, move), model.move(move), (text, play.moves, move))
            self.assertEqual(play_told(play), model.told(), (text, play.moves, move))
            if play.is_over:
                over += 1
                self.check_ends(play)
        again = Play.of(library, play.moves, strict=strict, records=records)
        self.assertEqual(play_told(again), play_told(play))
        return over

    def test_many_libraries(self):
        chance = random.Random(12)
        over = 0
        for number, text in enumerate(self.libraries(chance, 400)):
            records = chance.choice((None, ["d", "b", "a"], ["z", "a", "d", "c", "b"]))
            over += self.walk(chance, text, number % 2 == 0, records, 60)
        self.assertGreater(over, 1000)


if __name__ == "__main__":
    unittest.main()
