"""Libraries that are alike: 36."""

import random
import unittest

from innercommits.errors import TooMany, Unknown, Unlike
from innercommits.likeness import Likeness, alike, is_likeness
from innercommits.looker import is_closed
from innercommits.modes import Mode
from innercommits.plays import Play
from innercommits.tables import Table, entry_cases
from innercommits.texts import Library
from tests.explorer import Explorer, ended_with_last, some_library
from tests.helpers import library, told_error
from tests.looker_model import ODD, changes, likeness

JOIN = library("block join", "  write a")
INNER = library("block inner", "  write a")
SWITCHES = ("strict", "other_strict")


def tables(one, other, strict=False, other_strict=False, silent=False):
    records = sorted(set(one.records()) | set(other.records()))
    return [Table(one, records=records, strict=strict, silent=silent),
            Table(other, records=records, strict=other_strict, silent=silent)], records


def partings(one, other, **more):
    """The lengths of all ways to a face that the other library does not have."""
    both, records = tables(one, other, **more)
    found = []
    for name in one.functions():
        for case in entry_cases(records, silent=more.get("silent", False)):
            faces = [dict(table.faces(name, case)) for table in both]
            for side in (0, 1):
                found += [len(both[side].way(name, case, face)) for face in faces[side] if face not in faces[1 - side]]
    return found


class LikenessTest(unittest.TestCase):
    def check(self, one, other, good, **more):
        """Looks at all that is told of two libraries; returns it."""
        found = alike(one, other, **more)
        self.assertIsInstance(found, Likeness)
        lengths = partings(one, other, **more)
        self.assertEqual(bool(found), not lengths)
        if good is not None:
            self.assertIs(bool(found), good)
        self.assertEqual(len(found), min(lengths, default=0))
        self.assertIs(is_likeness(one, other, found.certificate, **more), True)
        (self.check_alike if found else self.check_parted)(one, other, found.certificate, **more)
        return found

    def check_alike(self, one, other, thing, **more):
        both, records = tables(one, other, **more)
        word, rows, others, ways = thing
        self.assertEqual((word, rows, others), ("alike", both[0].certificate, both[1].certificate))
        silent = more.get("silent", False)
        faces = [((name, case), face) for name in one.functions() for case in entry_cases(records, silent=silent)
                 for face, _ in both[0].faces(name, case)]
        self.assertEqual(sorted(way[:2] for way in ways), sorted(faces))
        for place, face, *moves in ways:
            for lib, told, table, switch in zip((one, other), moves, both, SWITCHES):
                self.assertEqual(len(told), len(table.way(*place, face)))
                play = Play.of(lib, told, strict=more.get(switch, False), records=records)
                self.assertEqual([(play.call_names()[0], play.case_of(0)), play.face_of(0), ended_with_last(play)],
                                 [place, face, True])

    def check_parted(self, one, other, thing, **more):
        both, records = tables(one, other, **more)
        word, side, moves, rows = thing
        self.assertEqual([word, type(side), rows], ["parted", int, both[1 - side].certificate])
        play = Play.of((one, other)[side], moves, strict=more.get(SWITCHES[side], False), records=records)
        self.assertTrue(ended_with_last(play))
        faces = dict(both[1 - side].faces(play.call_names()[0], play.case_of(0)))
        self.assertNotIn(play.face_of(0), faces)
        self.assertTrue(is_closed((other, one)[side], rows, records=records, silent=more.get("silent", False),
                                  strict=more.get(SWITCHES[1 - side], False)))

    def test_example_of_the_document(self):
        self.assertEqual([bool(alike(JOIN, JOIN)), bool(alike(JOIN, INNER)), len(alike(JOIN, INNER))], [True, False, 3])

    def test_what_does_not_matter(self):
        text = "function f\n  block join\n    write a\n    call g\nfunction g\n  write b"
        for other in ("function g\n  write b\nfunction f\n  block join\n    write a\n    call g",
                      text.replace("    write a", "    pass\n    write a"),
                      text.replace("  write b", "  block either\n    pass\n  write b"),
                      text.replace("call g", "write b"),
                      text.replace("block join", "block join keep odd"),
                      text.replace("  block join", "  try\n    raise odd\n  except\n    pass\n  block join")):
            self.check(Library(text), Library(other), True)
            self.check(Library(other), Library(text), True, silent=True)
            self.check(Library(other), Library(text), True, strict=True, other_strict=True)

    def test_what_matters(self):
        one = Library("function f\n  block join keep late\n    write a\n    try\n      write b\n    except refused\n      raise late")
        for before, after in (("join", "apart"), ("write b", "write a"), ("write a", "write c"), ("except refused", "except"),
                              ("keep late", "keep refused"), ("raise late", "pass"), ("raise late", "raise odd"),
                              ("      write b", "      write b\n      write b"), ("      write b", "      write b\n      doom")):
            other = Library(str(one).replace(before, after))
            if len(set(one.records()) | set(other.records())) <= 2:
                self.check(one, other, False)
                self.check(other, one, False)

    def test_records_of_one_alone(self):
        one, other = library("pass"), library("block must", "  raise missing")
        self.check(one, other, False)
        self.check(library("maybe", "  write a"), library("maybe", "  write b"), False)
        self.check(library("write a"), library("write a", "write b"), False)
        # A record that is written where nothing ever comes is looked at all the same.
        one, other = library("raise late"), library("raise late", "write a")
        self.check(one, other, True)
        self.assertEqual(len(alike(one, other).certificate[1]), 8)

    def test_strict_against_not(self):
        self.check(JOIN, JOIN, True, strict=True, other_strict=True)
        # A refused write dooms here in any case, by the block that joins.
        self.check(JOIN, JOIN, True, strict=True)
        one = library("write a")
        self.check(one, one, True, strict=True, other_strict=True)
        found = self.check(one, one, False, strict=True)
        self.assertEqual(len(found), 3)
        self.check(one, one, False, other_strict=True)
        self.check(library("try", "  write a", "except", "  doom", "  raise refused"), one, False, other_strict=True)
        self.check(library("try", "  write a", "except refused waits", "  doom"),
                   library("try", "  write a", "except refused waits", "  pass"), True, other_strict=True)

    def test_silent_callers(self):
        one = library("try", "  write a", "except waits", "  raise late")
        other = library("try", "  write a", "except waits", "  raise odd")
        self.check(one, other, False)
        found = self.check(one, other, True, silent=True)
        self.assertEqual(len(found.certificate[1]), 3)
        self.assertEqual([way[0][1] for way in found.certificate[3]],
                         [("doomed", (), ()), ("none", (), ()), ("none", (), ()), ("open", (), ()), ("open", (), ())])

    def test_sides(self):
        one, other = library("write a"), library("maybe", "  write a")
        found = self.check(one, other, False)
        self.assertEqual([found.certificate[1:3], len(found)], [(1, ("call f", "no")), 2])
        found = self.check(other, one, False)
        self.assertEqual([found.certificate[1:3], len(found)], [(0, ("call f", "no")), 2])

    def test_names_of_parameters(self):
        found = alike(one=JOIN, other=INNER, strict=False, other_strict=False, silent=False)
        self.assertIs(is_likeness(one=JOIN, other=INNER, thing=found.certificate, strict=False, other_strict=False,
                                  silent=False), True)
        self.assertEqual(found.certificate, alike(JOIN, INNER).certificate)

    def test_errors(self):
        def text(names, *lines):
            return Library("\n".join(f"function {name}\n" + "\n".join("  " + line for line in lines) for name in names))

        many = ["write " + record for record in "abc"] + ["pass"] * 30
        for deed in (alike, lambda one, other: is_likeness(one, other, None)):
            self.assertEqual(told_error(deed, text("fh", "call u"), text("fg", *many)), ("Unlike", "g"))
            self.assertEqual(told_error(deed, text("fg", *many), text("fh", "call u")), ("Unlike", "g"))
            self.assertEqual(told_error(deed, text("fgh", "pass"), text("f", "pass")), ("Unlike", "g"))
            self.assertEqual(told_error(deed, text("f", "call y", "call x"), text("f", "call u", *many)), ("Unknown", "x"))
            self.assertEqual(told_error(deed, text("f", "pass"), text("f", "call u", "call b")), ("Unknown", "b"))
            self.assertEqual(told_error(deed, text("f", *many), text("f", "pass")), ("TooMany", "records"))
            self.assertEqual(told_error(deed, text("f", "write a", "write b"), text("f", "write c")), ("TooMany", "records"))
            self.assertEqual(told_error(deed, text("f", *many[1:]), text("f", "pass")), ("TooMany", "statements"))
            self.assertEqual(told_error(deed, text("f", "pass"), text("f", *many[1:])), ("TooMany", "statements"))
        for error in (TooMany, Unknown, Unlike):
            self.assertTrue(issubclass(error, ValueError))

    def pairs(self, chance, many):
        """Libraries by chance with a small change."""
        for number in range(many):
            text = some_library(chance, chance.randint(2, 4), called=("f", "g"), records=("a", "b"), most=12)
            lines = text.split("\n")
            at = chance.randrange(len(lines))
            words = lines[at].split(" ")
            if "block" in words:
                words[words.index("block") + 1] = chance.choice(Mode.ALL)
            elif "write" in words:
                words[-1] = chance.choice("ab")
            elif words[-1] in ("pass", "doom"):
                words[-1] = chance.choice(("pass", "doom"))
            lines[at] = " ".join(words)
            more = {"strict": number % 3 == 0, "other_strict": number % 3 == 0 or chance.random() < 0.2,
                    "silent": number % 2 == 0}
            yield text, "\n".join(lines), more

    def test_by_chance(self):
        chance = random.Random(61)
        same = other_ones = 0
        for text, other, more in self.pairs(chance, 150):
            one, two = Library(text), Library(other)
            found = self.check(one, two, None, **more)
            swapped = {**more, "strict": more["other_strict"], "other_strict": more["strict"]}
            back = self.check(two, one, None, **swapped)
            self.assertEqual([bool(back), len(back)], [bool(found), len(found)])
            same += bool(found)
            other_ones += not found
            self.check(one, one, True, strict=more["strict"], other_strict=more["strict"], silent=more["silent"])
        self.assertGreater(same, 20)
        self.assertGreater(other_ones, 20)

    def test_alike_through_a_third(self):
        chance = random.Random(62)
        for text, _, more in self.pairs(chance, 30):
            third = text.replace("\n", "\n  pass\n", 1)
            name = text.split("\n")[0]
            second = text.replace(name + "\n", name + "\n  block either\n    pass\n", 1)
            libs = [Library(text), Library(second), Library(third)]
            told = [bool(alike(libs[one], libs[other], silent=more["silent"])) for one, other in ((0, 1), (1, 2), (0, 2))]
            self.assertEqual(told, [True] * 3)

    def test_no_shorter_play_parts_them(self):
        for one, other in ((JOIN, INNER), (library("write a"), library("block join", "  write a")),
                           (library("block outside", "  write a"), library("block apart", "  write a")),
                           (library("block must", "  write a"), library("block alone", "  write a"))):
            found = alike(one, other)
            words = ("enter join", "enter apart", "enter outside", "enter inner", "write a", "doom")
            for side, lib in enumerate((one, other)):
                table = tables(one, other)[0][1 - side]
                for play in Explorer(lib, "f", words, len(found) - 1).plays():
                    if ended_with_last(play):
                        self.assertIn(play.face_of(0), dict(table.faces("f", play.case_of(0))))


class LookTest(unittest.TestCase):
    def test_changes_by_chance(self):
        chance = random.Random(63)
        good = 0
        for text, other, more in LikenessTest().pairs(chance, 60):
            one, two = Library(text), Library(other)
            if len(one) > 8 and not more["silent"]:
                continue
            thing = alike(one, two, **more).certificate
            stricts = (more["strict"], more["other_strict"])
            for changed in changes(chance, thing, 25):
                told = is_likeness(one, two, changed, **more)
                self.assertIs(told, likeness((text, other), changed, stricts, more["silent"]), (text, other, changed))
                good += told
        self.assertGreater(good, 100)

    def test_what_may_be_otherwise(self):
        one, other = library("write a"), library("pass", "write a")
        word, rows, others, ways = alike(one, other).certificate

        def good(*parts, **more):
            return is_likeness(one, other, tuple(parts), **more)

        self.assertTrue(good(word, rows, others, ways))
        self.assertTrue(good(word, rows[::-1], others, ways[::-1]))
        self.assertTrue(good(word, rows, others, ways + ways[:3]))
        longer = tuple((place, face, ("enter either", "leave") + moves, moves) for place, face, moves, _ in ways)
        self.assertTrue(good(word, rows, others, longer))
        self.assertTrue(good(word, rows, others, ways + longer))
        self.assertFalse(good(word, rows, others, ways[1:]))
        self.assertFalse(good(word, rows, others, ways[:-1]))
        self.assertFalse(good(word, rows, others, ()))
        self.assertFalse(good(word, rows[1:], others, ways))
        self.assertFalse(good(word, rows, others[:-1], ways))
        self.assertFalse(good(word, rows, others, list(ways)))
        self.assertFalse(good(word, rows, others, ways, ()))
        self.assertFalse(good(word, rows, others))
        self.assertFalse(good("parted", rows, others, ways))
        self.assertFalse(good("alikes", rows, others, ways))
        for place, face, moves, _ in ways[:4]:
            for told in (moves[:-1], moves + ("write z",), moves + ("call f",), ("call f", "no") + moves, list(moves), None,
                         (), ("call g",), moves + (None,), ("leave",) + moves):
                self.assertFalse(good(word, rows, others, ways + ((place, face, told, moves),)), told)
                self.assertFalse(good(word, rows, others, ways + ((place, face, moves, told),)), told)
            self.assertFalse(good(word, rows, others, ways + ((place, ways[5][1], moves, moves),)))
            self.assertFalse(good(word, rows, others, ways + ((("g", place[1]), face, moves, moves),)))
            self.assertFalse(good(word, rows, others, ways + (((place[0], ways[9][0][1]), face, moves, moves),)))

    def test_sides_that_are_exchanged(self):
        one, other = library("write a"), library("maybe", "  pass", "write a")
        word, rows, others, ways = alike(one, other).certificate
        swapped = tuple((place, face, moves, told) for place, face, told, moves in ways)
        for thing, good in (((word, rows, others, ways), True), ((word, others, rows, ways), False),
                            ((word, rows, others, swapped), False), ((word, others, rows, swapped), False),
                            ((word, rows, others, ways + swapped[:1]), False), ((word, others, others, ways), False),
                            ((word, rows, rows, ways), True)):
            self.assertIs(is_likeness(one, other, thing), good)
            self.assertIs(likeness((str(one), str(other)), thing, (False, False), False), good)

    def test_faces_of_one_side_alone(self):
        one, other = library("write a"), library("pass", "write a")
        word, rows, others, ways = alike(one, other).certificate
        place, faces = rows[0]
        more = (("missing", True, faces[0][0][2], (), ()), 0)
        larger = ((place, faces + (more,)),) + rows[1:]
        self.assertTrue(is_closed(one, larger))
        self.assertFalse(is_likeness(one, other, (word, larger, others, ways)))
        self.assertFalse(is_likeness(one, other, (word, rows, larger, ways)))
        self.assertFalse(is_likeness(one, other, (word, larger, larger, ways)))

    def test_partings(self):
        word, side, moves, rows = alike(JOIN, INNER).certificate
        self.assertEqual(word, "parted")

        def parted(side, moves, rows, word="parted", **more):
            return is_likeness(JOIN, INNER, (word, side, moves, rows), **more)

        self.assertTrue(parted(side, moves, rows))
        self.assertTrue(parted(side, moves, rows[::-1]))
        self.assertTrue(parted(side, ("write z",) + moves, rows))
        self.assertTrue(parted(side, ("write z", "enter outside", "leave") + moves, rows))
        needed = tuple(row for row in rows if row[0][1] == ("open", (), ()))
        self.assertTrue(parted(side, moves, needed))
        self.assertFalse(parted(side, moves, tuple(row for row in rows if row not in needed)))
        self.assertFalse(parted(1 - side, moves, rows))
        self.assertFalse(parted(bool(side), moves, rows))
        self.assertFalse(parted(2, moves, rows))
        self.assertFalse(parted(-1, moves, rows))
        self.assertFalse(parted(None, moves, rows))
        self.assertFalse(parted(side, moves, rows, word="alike"))
        self.assertFalse(parted(side, moves + ("write z",), rows))
        self.assertFalse(parted(side, moves[:-1], rows))
        self.assertFalse(parted(side, ("call f", "no") + moves, rows))
        self.assertFalse(parted(side, list(moves), rows))
        self.assertFalse(parted(side, ("enter join", "call f", "yes"), rows))
        self.assertFalse(parted(side, moves, ()))
        self.assertFalse(parted(side, moves, None))
        silent = alike(JOIN, INNER, silent=True).certificate
        self.assertTrue(parted(*silent[1:], silent=True))
        self.assertFalse(parted(silent[1], ("write z",) + silent[2], silent[3], silent=True))
        self.assertTrue(parted(silent[1], ("enter inner", "leave", "yes") + silent[2], silent[3], silent=True))

    def test_writes_of_silent_callers(self):
        one, other = library("write a"), library("pass", "write a")
        word, rows, others, ways = alike(one, other, silent=True).certificate
        self.assertTrue(is_likeness(one, other, (word, rows, others, ways), silent=True))
        self.assertFalse(is_likeness(one, other, (word, rows, others, ways)))
        place, face, moves, told = ways[0]
        more = (place, face, ("write z",) + moves, told)
        self.assertFalse(is_likeness(one, other, (word, rows, others, (more,) + ways[1:]), silent=True))
        self.assertFalse(is_likeness(one, other, (word, rows, others, (more,) + ways), silent=True))

    def test_values_of_all_kinds(self):
        for thing in ODD + (("alike", (), (), ()), ("parted", 0, (), ()), ("alike", None, None, None), {}, ("alike",) * 4,
                            (True, (), (), ()), [["alike"]]):
            self.assertIs(is_likeness(JOIN, INNER, thing), False)


if __name__ == "__main__":
    unittest.main()
