"""Whether values of any kind are certificates: 33 and 34."""

import random
import unittest

from innercommits.fates import judge
from innercommits.looker import is_closed, is_verdict, is_waiting
from innercommits.rules import Rule
from innercommits.tables import Table
from innercommits.texts import Library
from innercommits.waiting import SelfWaits
from tests.explorer import some_library
from tests.helpers import library, told_error
from tests.looker_model import ODD, changes, closed, verdict, waiting
from tests.table_model import TableModel, least

NONE, OPEN, LOST = ("none", (), ()), ("open", (), ()), ("doomed", (), ())
MODES = ("join", "apart", "outside", "join", "apart", "inner", "must")


def shuffled(chance, rows):
    """The rows in another order, with their faces in another order."""
    rows = [(place, tuple(chance.sample(faces, len(faces)))) for place, faces in rows]
    return tuple(chance.sample(rows, len(rows)))


def closed_up(text, table, records, strict, silent):
    """The table with all that the rules ask for, and what it had before."""
    before = None
    table = {place: dict(faces) for place, faces in table.items()}
    while before != table:
        before = {place: dict(faces) for place, faces in table.items()}
        model = TableModel(text, records, strict, silent)
        model.table = table
        for name, case in list(table):
            row = model.row(name, case)
            table[(name, case)] = least([*table[(name, case)].items(), *row.items()])
    return model.certificate()


class ClosedTest(unittest.TestCase):
    LIB = library("write a", "call g")
    ROWS = Table(library("write a"), silent=True).certificate

    def changed(self, place, faces):
        lib = library("write a")
        rows = tuple((other, faces if other == place else before) for other, before in self.ROWS)
        return is_closed(lib, rows, silent=True)

    def test_what_tables_are(self):
        lib = library("write a")
        self.assertIs(is_closed(lib, self.ROWS, silent=True), True)
        self.assertIs(is_closed(library=lib, thing=self.ROWS, names=["f"], records=["a"], strict=False, silent=True), True)
        self.assertIs(is_closed(lib, self.ROWS), False)
        self.assertIs(is_closed(lib, self.ROWS, strict=True, silent=True), False)
        self.assertIs(is_closed(lib, Table(lib).certificate), True)
        self.assertIs(is_closed(lib, Table(lib, strict=True).certificate, strict=True), True)
        self.assertIs(is_closed(lib, Table(lib).certificate, strict=True), False)

    def test_rows_that_are_asked_for(self):
        lib = Library("function f\n  call g\nfunction g\n  pass\nfunction h\n  pass")
        rows = Table(lib, names=["f"], silent=True).certificate
        self.assertEqual([is_closed(lib, rows, names=names, silent=True) for names in (["f"], ["f", "g"], ["g", "f", "g"])],
                         [True] * 3)
        self.assertEqual([is_closed(lib, rows, names=names, silent=True) for names in (None, ["h"], ["f", "h"])], [False] * 3)
        self.assertTrue(is_closed(lib, (), names=[], silent=True))
        self.assertTrue(is_closed(lib, (), names=[]))
        self.assertFalse(is_closed(lib, ()))
        for at in range(len(rows)):
            fewer = rows[:at] + rows[at + 1:]
            self.assertFalse(is_closed(lib, fewer, names=["f"], silent=True))
            self.assertEqual(is_closed(lib, fewer, names=[], silent=True), rows[at][0][0] == "f")
            self.assertFalse(is_closed(lib, rows + rows[at:at + 1], names=["f"], silent=True))

    def test_numbers(self):
        well, failed = ("", False, (), ("a",), ()), ("refused", False, (), (), ())
        place = ("f", NONE)
        for numbers, good in (((1, 1), True), ((0, 1), True), ((0, 0), True), ((2, 1), False), ((1, 2), False),
                              ((-1, 1), False), ((True, 1), False), ((1, None), False), ((1, "1"), False),
                              ((10 ** 29, 1), False), ((False, 0), False)):
            self.assertIs(self.changed(place, ((well, numbers[0]), (failed, numbers[1]))), good, numbers)

    def test_numbers_of_functions_that_are_called(self):
        lib = Library("function f\n  call g\nfunction g\n  write a")
        rows = dict(Table(lib, silent=True).certificate)

        def with_number(name, number):
            return tuple((place, tuple((face, number if place == (name, NONE) else many) for face, many in faces))
                         for place, faces in rows.items())

        self.assertTrue(is_closed(lib, with_number("f", 0), silent=True))
        self.assertFalse(is_closed(lib, with_number("g", 0), silent=True))
        self.assertTrue(is_closed(lib, with_number("f", 1), silent=True))

    def test_faces_of_a_case(self):
        well, failed = (("", False, (), ("a",), ()), 1), (("refused", False, (), (), ()), 1)
        place = ("f", NONE)
        self.assertTrue(self.changed(place, (failed, well)))
        for more in (("", False, (), (), ()), ("?", False, (), ("a",), ()), ("missing", False, (), ("a",), ())):
            self.assertTrue(self.changed(place, (well, failed, (more, 0))))
            self.assertTrue(self.changed(place, ((more, 10 ** 29), well, failed)))
        for more in (("late", False, (), (), ()), ("", True, (), (), ()), ("", False, ("a",), (), ()), ("", 0, (), (), ()),
                     ("", False, (), (), ("a",)), ("", False, (), ("z",), ()), ("", False, (), ("a", "a"), ()),
                     ("", False, [], (), ()), ("", False, (), ["a"], ()), ("", False, (), ()), ("", None, (), (), ()),
                     ("", False, (), (True,), ()), (None, False, (), (), ()), ["", False, (), (), ()], "", None, 0,
                     ("", False, (), (), (), ()), ("a" * 3000, False, (), (), ()), well[0], failed[0]):
            self.assertFalse(self.changed(place, (well, failed, (more, 1))), more)
        self.assertFalse(self.changed(place, [well, failed]))
        self.assertFalse(self.changed(place, (well, list(failed))))
        self.assertFalse(self.changed(place, (well, failed + (1,))))
        self.assertFalse(self.changed(place, (well,)))
        self.assertFalse(self.changed(place, ()))

    def test_each_clause_about_faces(self):
        lib = Library("function f\n  write a\n  write b\nfunction g\n  pass")
        rows = Table(lib, names=["f"]).certificate
        for case, more, good in (
                (("open", (), ("a",)), ("", False, ("a", "b"), (), ("b",)), True),
                (("open", (), ("a",)), ("", False, ("b",), (), ()), False),
                (("open", ("a",), ()), ("", False, ("a",), (), ()), False),
                (("open", ("a",), ()), ("", False, ("b",), (), ()), True),
                (("open", (), ()), ("", False, ("a",), ("a",), ("a",)), False),
                (("open", (), ()), ("", False, ("a",), ("a",), ()), True),
                (("open", (), ()), ("", False, ("a",), (), ("b",)), False),
                (("open", (), ()), ("", True, ("a",), (), ("a",)), False),
                (("open", (), ()), ("", True, ("a",), ("b",), ()), True),
                (("none", ("a",), ()), ("", True, (), (), ()), False),
                (("none", ("a",), ()), ("", False, ("b",), (), ()), False),
                (("none", ("a",), ()), ("", False, (), ("a", "b"), ()), True),
                (("doomed", (), ("a",)), ("", False, ("a",), (), ()), False),
                (("doomed", (), ("a",)), ("", True, ("a", "b"), (), ()), False),
                (("doomed", (), ("a",)), ("", True, ("a",), ("b",), ()), True)):
            self.assertIs(is_closed(lib, rows + ((("g", case), ((more, 5), *Table(lib, names=["g"]).faces("g", case))),),
                                    names=["f"]), good, (case, more))

    def test_each_clause_about_cases(self):
        lib = Library("function f\n  write a\n  write b\nfunction g\n  raise late")
        rows = Table(lib, names=["f"]).certificate

        def with_case(case, name="g"):
            is_lost = isinstance(case, tuple) and case[:1] == ("doomed",)
            held = case[2] if isinstance(case, tuple) and len(case) == 3 else ()
            return is_closed(lib, rows + (((name, case), ((("late", is_lost, held, (), ()), 0),)),), names=["f"])

        for case in (NONE, OPEN, LOST, ("open", ("a",), ("b",)), ("none", ("a", "b"), ()), ("doomed", (), ("a", "b"))):
            self.assertTrue(with_case(case), case)
        for case in (("none", (), ("a",)), ("open", ("a",), ("a",)), ("open", ("b", "a"), ()), ("open", ("z",), ()),
                     ("open", ["a"], ()), ("free", (), ()), ["open", (), ()], ("open", ()), ("open", (), (), ()), None,
                     ("open", None, ()), ("open", (0,), ()), (True, (), ()), ("open", ("a", "a"), ())):
            self.assertFalse(with_case(case), case)
        for name in ("h", "", None, 0, ("g",), ["g"], "g "):
            self.assertFalse(with_case(OPEN, name=name))

    def test_values_of_all_kinds(self):
        lib = library("write a")
        for thing in ODD + (self.ROWS[:1] * 2, list(self.ROWS), [self.ROWS], (self.ROWS,), self.ROWS + ((),), self.ROWS + (None,),
                            tuple(list(row) for row in self.ROWS), (self.ROWS, self.ROWS), {}, [[[[[[[["a"]]]]]]]],
                            Table(lib).certificate):
            self.assertIs(is_closed(lib, thing, silent=True), thing == Table(lib).certificate and thing != ())

    def test_errors(self):
        many = Library("function f\n" + "\n".join(f"  write {record}" for record in "abcd") + "\n  pass" * 27)
        long = Library("function f\n  write a" + "\n  pass" * 30)
        self.assertEqual(told_error(lambda: is_closed(many, 0, names=["f", "g"], records=[])), ("NoFunction", "g"))
        self.assertEqual(told_error(lambda: is_closed(many, 0, records=["a"])), ("BadRecords", "b"))
        self.assertEqual(told_error(lambda: is_closed(many, 0)), ("TooMany", "records"))
        self.assertEqual(told_error(lambda: is_closed(long, 0, names=[])), ("TooMany", "statements"))
        for deed in (lambda lib, name: is_verdict(lib, name, Rule.always(), 0), lambda lib, name: is_waiting(lib, name, 0)):
            self.assertEqual(told_error(deed, many, "g"), ("NoFunction", "g"))
            self.assertEqual(told_error(deed, many, "f"), ("TooMany", "records"))
            self.assertEqual(told_error(deed, long, "f"), ("TooMany", "statements"))

    def test_changes_by_chance(self):
        chance = random.Random(41)
        good = 0
        for number in range(60):
            text = some_library(chance, chance.randint(2, 4), records=("a", "b"), most=14)
            lib = Library(text)
            records = lib.records() + (["z"] if chance.random() < 0.3 else [])
            more = {"strict": number % 2 == 0, "silent": number % 3 != 0}
            rows = Table(lib, names=["f"], records=records, **more).certificate
            self.assertTrue(is_closed(lib, shuffled(chance, rows), names=["f"], records=records, **more))
            for thing in changes(chance, rows, 60):
                told = is_closed(lib, thing, names=["f"], records=records, **more)
                self.assertIs(told, closed(text, thing, ["f"], records, **more) is not None, (text, thing))
                good += told
        self.assertGreater(good, 300)

    def test_larger_tables_by_chance(self):
        chance = random.Random(42)
        good = 0
        for number in range(60):
            text = some_library(chance, chance.randint(2, 4), records=("a", "b"), most=12)
            lib = Library(text)
            records = lib.records()
            more = {"strict": number % 2 == 0, "silent": number % 3 != 0}
            table = {place: dict(faces) for place, faces in Table(lib, records=records, **more).certificate}
            for _ in range(3):
                # Any face of a case makes a larger table, once all that follows from it has been added.
                place, case = chance.choice([(place, place[1]) for place in table])
                held = case[2] if case[0] != "open" else tuple(sorted(
                    set(case[2]) | set(chance.sample(records, len(records) // 2)) - set(case[1])))
                face = (chance.choice(["", "?", "missing"]), case[0] == "doomed", held, tuple(records[:1]), ())
                table[place][face] = chance.randint(0, 3)
            rows = closed_up(text, table, records, **more)
            self.assertTrue(is_closed(lib, shuffled(chance, rows), **more))
            for thing in changes(chance, rows, 30):
                told = is_closed(lib, thing, **more)
                self.assertIs(told, closed(text, thing, lib.functions(), records, **more) is not None, (text, thing))
                good += told
        self.assertGreater(good, 100)


class VerdictTest(unittest.TestCase):
    def test_what_is_returned(self):
        chance = random.Random(43)
        good = 0
        for number in range(80):
            text = some_library(chance, chance.randint(2, 4), records=("a", "b"), most=14)
            lib = Library(text)
            more = {"strict": number % 2 == 0, "silent": number % 3 == 0}
            rule = chance.choice((Rule.together("a", "b"), Rule.has("a") >> Rule.has("b"), ~Rule.has("b")))
            thing = judge(lib, "f", rule, **more).certificate
            self.assertIs(is_verdict(lib, "f", rule, thing, **more), True)
            self.assertIs(is_verdict(lib, "f", ~rule, thing, **more), verdict(text, "f", ~rule, thing, **more))
            for other in changes(chance, thing, 40):
                told = is_verdict(lib, "f", rule, other, **more)
                self.assertIs(told, verdict(text, "f", rule, other, **more), (text, other))
                good += told
            if thing[0] == "holds":
                larger = ("holds", Table(lib, **more).certificate)
                self.assertIs(is_verdict(lib, "f", rule, (thing[0], shuffled(chance, larger[1])), **more), True)
        self.assertGreater(good, 100)

    def test_plays_that_break_a_rule(self):
        lib = Library("function f\n  write a\n  call g\n  write b\nfunction h\n  write b\n  write a")
        rule = Rule.together("a", "b")

        def breaks(*moves, name="f", **more):
            return is_verdict(lib, name, rule, ("breaks", moves), **more)

        self.assertTrue(breaks("call f", "yes", "return", "no"))
        self.assertTrue(breaks("call f", "yes", "return", "no", silent=True))
        self.assertTrue(breaks("write z", "call f", "yes", "return", "no"))
        self.assertFalse(breaks("write z", "call f", "yes", "return", "no", silent=True))
        self.assertFalse(breaks("call f", "yes", "write z", "raise odd", silent=True))
        self.assertTrue(breaks("call f", "yes", "write z", "raise odd"))
        self.assertFalse(breaks("call f", "yes", "return"))
        self.assertFalse(breaks("call f", "yes", "return", "yes"))
        self.assertFalse(breaks("enter join", "call f", "yes", "return", "no"))
        self.assertFalse(breaks("enter join", "call f", "yes", "return", "no", "leave", "no"))
        self.assertTrue(breaks("enter join", "call f", "yes", "return", "no", "leave", "yes"))
        self.assertTrue(breaks("enter join", "call f", "yes", "doom", "return", "leave", "call f", "yes", "raise odd"))
        self.assertFalse(breaks("call f", "yes", "raise odd", "call f", "no", silent=True))
        self.assertTrue(breaks("call f", "yes", "call h", "no", "return", "no"))
        self.assertFalse(breaks("call f", "yes", "call h", "yes", "no", "return", "yes"))
        self.assertTrue(breaks("call f", "yes", "call h", "yes", "no", "return", "yes", name="h"))
        self.assertFalse(breaks("call f", "yes", "return", "no", name="h"))
        self.assertFalse(breaks("call f", "yes", "return", "no", "no"))
        self.assertFalse(breaks("call f", "yes", "return", "perhaps"))
        self.assertFalse(breaks("call f", "yes", "return", None))
        self.assertFalse(breaks("call f", "yes", ["return"], "no"))
        self.assertFalse(is_verdict(lib, "f", rule, ("breaks", ["call f", "yes", "return", "no"])))
        self.assertFalse(is_verdict(lib, "f", rule, ["breaks", ("call f", "yes", "return", "no")]))
        self.assertFalse(is_verdict(lib, "f", rule, ("holds", ("call f", "yes", "return", "no"))))
        self.assertFalse(is_verdict(lib, "f", rule, ("breaks", ("call f", "yes", "return", "no"), 0)))
        self.assertFalse(breaks())
        self.assertFalse(breaks("enter must", "call f"))
        self.assertFalse(breaks("enter join", "doom", "write a"))

    def test_rows_that_show_a_rule(self):
        lib = library("write a", "block apart", "  write b")
        rows = Table(lib).certificate
        self.assertTrue(is_verdict(lib, "f", Rule.always(), ("holds", rows)))
        self.assertFalse(is_verdict(lib, "f", ~Rule.has("a"), ("holds", rows)))
        self.assertFalse(is_verdict(lib, "f", ~Rule.has("b"), ("holds", rows)))
        # Pending records are kept in the end, or not.
        lib = library("block must", "  write a")
        rows = Table(lib).certificate
        self.assertFalse(is_verdict(lib, "f", ~Rule.has("a"), ("holds", rows)))
        self.assertFalse(is_verdict(lib, "f", Rule.has("a"), ("holds", rows)))
        # Only rows of entry cases of the function matter.
        lib = Library("function f\n  block join\n    call g\nfunction g\n  maybe\n    block apart\n      write a\n  raise late")
        rule = ~Rule.has("a") | Rule.has("z")
        rows = Table(lib, silent=True).certificate
        self.assertFalse(is_verdict(lib, "f", rule, ("holds", rows), silent=True))
        lib = Library("function f\n  pass\nfunction g\n  write a")
        rows = Table(lib, silent=True).certificate
        self.assertTrue(is_verdict(lib, "f", rule, ("holds", rows), silent=True))
        self.assertFalse(is_verdict(lib, "g", rule, ("holds", rows), silent=True))
        outside = ((("f", ("open", ("a",), ())), ((("", False, (), ("a",), ()), 0), (("", False, (), (), ()), 0))),)
        self.assertTrue(is_verdict(lib, "f", rule, ("holds", rows + outside), silent=True))

    def test_values_of_all_kinds(self):
        lib = library("write a")
        for thing in ODD + (("holds",), ("holds", ()), ("breaks", ()), ("breaks",), (True, ()), ("holds", None), {}):
            self.assertIs(is_verdict(lib, "f", Rule.always(), thing), False)


class WaitingTest(unittest.TestCase):
    LIB = library("block join", "  write a", "  maybe", "    block apart", "      write b", "      write a")

    def test_what_is_returned(self):
        chance = random.Random(44)
        good = some = 0
        while some < 40:
            text = some_library(chance, chance.randint(3, 6), records=("a", "b"), most=16, modes=MODES)
            lib = Library(text)
            strict = some % 2 == 0
            found = SelfWaits(lib, "f", strict=strict)
            if not found.records() and chance.random() < 0.95:
                continue
            some += 1
            pairs, rows = thing = found.certificate
            self.assertIs(is_waiting(lib, "f", thing, strict=strict), True)
            self.assertIs(is_waiting(lib, "f", (pairs, shuffled(chance, rows)), strict=strict), True)
            larger = (pairs, Table(lib, strict=strict, silent=True).certificate)
            self.assertIs(is_waiting(lib, "f", larger, strict=strict), waiting(text, "f", larger, strict))
            for other in changes(chance, thing, 60):
                told = is_waiting(lib, "f", other, strict=strict)
                self.assertIs(told, waiting(text, "f", other, strict), (text, other))
                good += told
        self.assertGreater(good, 50)

    def test_moves(self):
        pairs, rows = SelfWaits(self.LIB, "f").certificate
        self.assertEqual(pairs, (("a", ("call f", "yes", "yes", "yes")),))

        def waits(*moves, record="a"):
            return is_waiting(self.LIB, "f", (((record, moves),), rows))

        self.assertTrue(waits("call f", "yes", "yes", "yes"))
        self.assertTrue(waits("enter join", "call f", "yes", "yes", "yes"))
        self.assertTrue(waits("enter join", "enter inner", "call f", "yes", "yes", "yes", "leave"))
        self.assertFalse(waits("call f", "yes", "yes"))
        self.assertFalse(waits("call f", "yes", "yes", "no"))
        self.assertFalse(waits("call f", "yes", "yes", "yes", record="b"))
        self.assertFalse(waits("write z", "call f", "yes", "yes", "yes"))
        self.assertFalse(waits("call f", "no", "call f", "yes", "yes", "yes"))
        self.assertFalse(waits("enter join", "write a", "enter apart", "call f"))
        self.assertFalse(waits("call f", "yes", "yes", "yes", "yes"))
        self.assertFalse(waits("call f", "yes", "yes", True))
        self.assertFalse(is_waiting(self.LIB, "f", ((("a", ["call f", "yes", "yes", "yes"]),), rows)))
        self.assertFalse(is_waiting(self.LIB, "f", ([("a", ("call f", "yes", "yes", "yes"))], rows)))
        self.assertFalse(is_waiting(self.LIB, "f", (pairs + pairs, rows)))
        self.assertFalse(is_waiting(self.LIB, "f", ((), rows)))

    def test_strict(self):
        lib = library("write a", "block apart", "  write a")
        both = [SelfWaits(lib, "f", strict=strict).certificate for strict in (False, True)]
        self.assertEqual([[is_waiting(lib, "f", thing, strict=strict) for thing in both] for strict in (False, True)],
                         [[True, False], [False, True]])

    def test_other_functions(self):
        lib = Library("function f\n  call g\nfunction g\n  block join\n    write a\n    block apart\n      write a")
        pairs, rows = SelfWaits(lib, "f").certificate
        self.assertTrue(is_waiting(lib, "f", (pairs, rows)))
        other, more = SelfWaits(lib, "g").certificate
        self.assertTrue(is_waiting(lib, "g", (other, more)))
        self.assertFalse(is_waiting(lib, "f", (other, rows)))
        self.assertFalse(is_waiting(lib, "f", (pairs, more)))
        self.assertTrue(is_waiting(lib, "g", (other, rows)))

    def test_waits_in_rows_that_are_not_needed(self):
        lib = Library("function f\n  pass\nfunction g\n  write a")
        rows = Table(lib, names=["f"], silent=True).certificate
        self.assertTrue(is_waiting(lib, "f", ((), rows)))
        row = (("g", ("none", ("a",), ())), ((("waits", False, (), (), ()), 0),))
        self.assertTrue(is_closed(lib, rows + (row,), names=["f"], silent=True))
        self.assertFalse(is_waiting(lib, "f", ((), rows + (row,))))

    def test_values_of_all_kinds(self):
        for thing in ODD + (((), ()), ((), None), (None, ()), ((), (), ()), (("a",), ()), ((("a", ()),), ()), {}):
            self.assertIs(is_waiting(self.LIB, "f", thing), False)


if __name__ == "__main__":
    unittest.main()
