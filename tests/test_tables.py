"""Entry cases and tables: 29 to 31, rule by rule."""

import inspect
import sys
import unittest

from innercommits.callers import Run
from innercommits.errors import BadRecords, NoFace, NoFunction, NoRow, TooMany
from innercommits.fates import Fates
from innercommits.plays import Play
from innercommits.tables import Table, entry_cases
from innercommits.texts import Library
from tests.helpers import library, told_error
from tests.table_model import TableModel, entries

NONE, OPEN, LOST = ("none", (), ()), ("open", (), ()), ("doomed", (), ())
WELL = ("", False, (), (), ())
ERRORS = ("doomed", "missing", "present", "refused", "waits")
STRANGE = [0, 1, True, False, None, "", "f", "g", (), [], ("f",), ["f", NONE], ("f", list(NONE)), ("f", NONE, NONE),
           ("f", ("none", [], ())), ("f", ("none", (), ("a",))), ("f", ("open", ("a",), ("a",))), ("f", ("open", (), None)),
           ("f", ("none", False, ())), ("f", ("free", (), ())), ("f", ("open", ("z",), ())), ("f", ("open", ("b", "a"), ())),
           ("f", ("open", ("a", "a"), ())), ("f", ("open", (1,), ())), ("f", ("open", ((),), ())), ("f", (["open"], (), ())),
           (["f"], NONE), (("f",), NONE), ("h", NONE), (None, NONE), (1, NONE), ("a" * 3000, NONE), ("f", "none"),
           ("f", ("none", (), (), ())), ("f", ("open", ("a",) * 3000, ()))]


class EntryCaseTest(unittest.TestCase):
    def test_all(self):
        self.assertEqual(entry_cases([]), [LOST, NONE, OPEN])
        self.assertEqual(entry_cases(["a"]), [
            LOST, ("doomed", (), ("a",)), ("doomed", ("a",), ()), NONE, ("none", ("a",), ()),
            OPEN, ("open", (), ("a",)), ("open", ("a",), ())])
        records = []
        for many, word in enumerate(("d", "b", "a", "f", "c", "e", "g")):
            found = entry_cases(records)
            self.assertEqual(found, entries(records, False))
            self.assertEqual([len(found), len(set(found))], [2 ** many + 2 * 3 ** many] * 2)
            self.assertEqual(found, entry_cases(sorted(records)))
            self.assertEqual(entry_cases(records, silent=True), [LOST, NONE, OPEN])
            records.append(word)

    def test_by_name_and_new_each_time(self):
        records = ["b", "a"]
        found = entry_cases(records=records, silent=False)
        before = list(found)
        found.append("x")
        self.assertEqual(entry_cases(records), before)
        self.assertEqual(records, ["b", "a"])
        entry_cases(records, silent=True).clear()
        self.assertEqual(entry_cases(records, silent=True), [LOST, NONE, OPEN])


class FacesTest(unittest.TestCase):
    """What statements lead to, as the faces of a function that has them as its body."""

    def faces(self, lines, case, records=("a", "b"), **more):
        table = Table(library(*lines), records=list(records), **more)
        return table.faces("f", case)

    def check(self, lines, case, expected, **more):
        self.assertEqual(self.faces(lines, case, **more), sorted(expected))

    def test_pass_and_raise(self):
        for case in entry_cases(["a", "b"]):
            state, _, held = case
            self.check(["pass"], case, [(("", state == "doomed", held, (), ()), 0)])
            self.check(["raise late", "write a"], case, [(("late", state == "doomed", held, (), ()), 0)])

    def test_doom(self):
        for state, is_doomed in (("none", False), ("open", True), ("doomed", True)):
            self.check(["doom"], (state, ("b",), ()), [(("", is_doomed, (), (), ()), 0)])
        self.check(["write a", "doom"], OPEN, [(("", True, ("a",), (), ()), 1), (("refused", False, (), (), ()), 1)])

    def test_write_without_a_transaction(self):
        for strict in (False, True):
            self.check(["write a"], NONE, [(("", False, (), ("a",), ()), 1), (("refused", False, (), (), ()), 1)],
                       strict=strict)
            self.check(["write a"], ("none", ("b",), ()),
                       [(("", False, (), ("a",), ()), 1), (("refused", False, (), (), ()), 1)], strict=strict)
            self.check(["write a"], ("none", ("a",), ()), [(("waits", False, (), (), ()), 0)], strict=strict)

    def test_write_in_a_transaction(self):
        for strict in (False, True):
            self.check(["write a"], OPEN, [(("", False, ("a",), (), ("a",)), 1), (("refused", strict, (), (), ()), 1)],
                       strict=strict)
            self.check(["write a"], ("open", ("b",), ("a",)), [
                (("", False, ("a",), (), ("a",)), 1), (("refused", strict, ("a",), (), ()), 1)], strict=strict)
            self.check(["write a"], ("open", (), ("b",)), [
                (("", False, ("a", "b"), (), ("a",)), 1), (("refused", strict, ("b",), (), ()), 1)], strict=strict)
            self.check(["write a"], ("open", ("a",), ("b",)), [(("waits", strict, ("b",), (), ()), 0)], strict=strict)

    def test_write_in_a_doomed_level(self):
        for strict in (False, True):
            for case in (LOST, ("doomed", ("a",), ()), ("doomed", (), ("a",))):
                self.check(["write a"], case, [(("doomed", True, case[2], (), ()), 0)], strict=strict)

    def test_kept_ones_do_not_come_into_pending_again(self):
        self.check(["block apart", "  write a", "write a"], OPEN, [
            (("", False, ("a",), ("a",), ()), 3), (("refused", False, (), ("a",), ()), 3),
            (("refused", False, (), (), ()), 1)])
        self.check(["write a", "block outside", "  write b"], OPEN, [
            (("", False, ("a",), ("b",), ("a",)), 2), (("refused", False, (), (), ()), 1),
            (("refused", False, ("a",), (), ("a",)), 2)])

    def test_maybe(self):
        self.check(["maybe", "  write a"], NONE, [
            (("", False, (), (), ()), 1), (("", False, (), ("a",), ()), 2), (("refused", False, (), (), ()), 2)])
        self.check(["maybe", "  maybe", "    raise late"], NONE, [(WELL, 1), (("late", False, (), (), ()), 2)])

    def test_repeat(self):
        self.check(["repeat", "  maybe", "    write a", "  maybe", "    write b"], NONE, [
            (WELL, 1), (("", False, (), ("a",), ()), 5), (("", False, (), ("b",), ()), 5),
            (("", False, (), ("a", "b"), ()), 6), (("refused", False, (), (), ()), 3),
            (("refused", False, (), ("a",), ()), 5), (("refused", False, (), ("b",), ()), 7),
            (("refused", False, (), ("a", "b"), ()), 8)])
        self.check(["repeat", "  raise late"], NONE, [(WELL, 1), (("late", False, (), (), ()), 1)])

    def test_try(self):
        self.check(["try", "  write a", "except waits doomed", "  raise odd", "except refused", "  write b"], NONE, [
            (("", False, (), ("a",), ()), 1), (("", False, (), ("b",), ()), 2), (("refused", False, (), (), ()), 2)])
        self.check(["try", "  write a", "except", "  raise odd", "finally", "  maybe", "    raise late"], NONE, [
            (("", False, (), ("a",), ()), 2), (("late", False, (), ("a",), ()), 2),
            (("odd", False, (), (), ()), 2), (("late", False, (), (), ()), 2)])
        self.check(["try", "  raise late", "finally", "  write a"], NONE, [
            (("late", False, (), ("a",), ()), 1), (("refused", False, (), (), ()), 1)])
        self.check(["try", "  raise late", "except late", "  pass", "except", "  write a"], NONE, [(WELL, 0)])
        self.check(["try", "  raise late", "except odd", "  pass"], NONE, [(("late", False, (), (), ()), 0)])

    def test_blocks_that_cannot_be_entered(self):
        self.check(["block must", "  write a"], NONE, [(("missing", False, (), (), ()), 0)])
        for case in (OPEN, LOST):
            for mode in ("never", "alone"):
                self.check(["block " + mode, "  write a"], case, [(("present", case == LOST, (), (), ()), 0)])
        self.check(["block inner keep doomed", "  write a"], LOST, [(("doomed", True, (), (), ()), 0)])

    def test_blocks_that_join(self):
        made = (("", False, ("a",), (), ("a",)), 1)
        for mode in ("join", "must", "either"):
            self.check(["block " + mode, "  write a"], OPEN, [made, (("refused", True, (), (), ()), 1)])
            self.check([f"block {mode} keep refused", "  write a"], OPEN, [made, (("refused", False, (), (), ()), 1)])
            self.check([f"block {mode}", "  raise late"], LOST, [(("late", True, (), (), ()), 0)])
            self.check([f"block {mode} keep late", "  write a", "  doom", "  raise late"], OPEN, [
                (("late", True, ("a",), (), ()), 1), (("refused", True, (), (), ()), 1)])

    def test_blocks_without_effect(self):
        for mode in ("either", "never", "outside"):
            for keep in ("", " keep refused"):
                self.check([f"block {mode}{keep}", "  write a"], NONE, [
                    (("", False, (), ("a",), ()), 1), (("refused", False, (), (), ()), 1)])

    def test_blocks_that_open_one(self):
        cases = [(mode, NONE) for mode in ("join", "inner", "apart", "alone")] + [("apart", OPEN), ("apart", LOST)]
        for mode, case in cases:
            lost = case == LOST
            faces = [(("", lost, (), ("a",), ()), 2), (("refused", lost, (), (), ()), 1)]
            self.check([f"block {mode}", "  write a"], case, faces)
            self.check([f"block {mode} keep late refused", "  write a"], case, [
                (("", lost, (), ("a",), ()), 2), (("refused", lost, (), (), ()), 2)])
            self.check([f"block {mode} keep late", "  write a", "  raise late"], case, [
                (("late", lost, (), ("a",), ()), 2), (("refused", lost, (), (), ()), 1)])
            self.check([f"block {mode}", "  write a", "  doom"], case, [
                (("doomed", lost, (), (), ()), 1), (("refused", lost, (), (), ()), 1)])
            self.check([f"block {mode} keep late", "  doom", "  raise late"], case, [(("late", lost, (), (), ()), 0)])
            self.check([f"block {mode}", "  block apart", "    write b", "  raise late"], case, [
                (("late", lost, (), ("b",), ()), 2), (("refused", lost, (), (), ()), 1)])
        self.check(["block apart", "  write a"], ("open", (), ("a",)), [(("waits", False, ("a",), (), ()), 0)])
        self.check(["block apart", "  write a"], ("open", (), ("a",)), [(("waits", False, ("a",), (), ()), 0)],
                   strict=True)
        self.check(["block join", "  write a"], ("none", ("a",), ()), [(("waits", False, (), (), ()), 0)])

    def test_blocks_that_add_a_level(self):
        self.check(["block inner", "  write a"], OPEN, [
            (("", False, ("a",), (), ("a",)), 1), (("refused", False, (), (), ()), 1)])
        self.check(["block inner keep late", "  write a", "  raise late"], ("open", (), ("b",)), [
            (("late", False, ("a", "b"), (), ("a",)), 1), (("refused", False, ("b",), (), ()), 1)])
        self.check(["block inner", "  write a", "  doom"], ("open", (), ("b",)), [
            (("doomed", False, ("b",), (), ()), 1), (("refused", False, ("b",), (), ()), 1)])
        self.check(["block inner keep late", "  write a", "  doom", "  raise late"], OPEN, [
            (("late", False, (), (), ()), 1), (("refused", False, (), (), ()), 1)])
        self.check(["write a", "block inner", "  block apart", "    write b", "  raise late"], OPEN, [
            (("late", False, ("a",), ("b",), ("a",)), 3), (("refused", False, (), (), ()), 1),
            (("refused", False, ("a",), (), ("a",)), 2)])
        self.check(["block inner", "  write a"], ("open", ("a",), ()), [(("waits", False, (), (), ()), 0)])

    def test_block_outside_a_transaction(self):
        for case in (OPEN, LOST):
            lost = case == LOST
            self.check(["block outside", "  write a"], case, [
                (("", lost, (), ("a",), ()), 1), (("refused", lost, (), (), ()), 1)])
            self.check(["block outside", "  doom", "  block must", "    pass"], case, [(("missing", lost, (), (), ()), 0)])
        self.check(["block outside", "  write a"], ("open", (), ("a",)), [(("waits", False, ("a",), (), ()), 0)])
        self.check(["block outside", "  write a"], ("open", (), ("a",)), [(("waits", False, ("a",), (), ()), 0)],
                   strict=True)

    def test_unknown_functions_and_silent_callers(self):
        ends = ["", *ERRORS, "?"]
        free = [((end, False, (), (), ()), 1) for end in ends]
        self.check(["call g"], NONE, free)
        self.check(["call g"], ("none", ("a",), ()), free)
        for case in (("doomed", (), ()), ("doomed", ("a",), ("b",))):
            self.check(["call g"], case, [((end, True, case[2], (), ()), 1) for end in ends])
        some = [((), 0), (("a",), 1), (("b",), 1), (("a", "b"), 2)]
        self.check(["call g"], OPEN, [((end, lost, held, (), ()), 1 + more + lost)
                                      for end in ends for lost in (False, True) for held, more in some])
        self.check(["call g"], ("open", ("a",), ("b",)), [((end, lost, ("b",), (), ()), 1 + lost)
                                                          for end in ends for lost in (False, True)])
        self.check(["call g"], ("open", (), ("b",)), [((end, lost, held, (), ()), many + lost) for end in ends
                                                      for lost in (False, True) for held, many in ((("b",), 1), (("a", "b"), 2))])
        self.check(["call g"], OPEN, [((end, lost, (), (), ()), 1 + lost) for end in ends for lost in (False, True)],
                   silent=True)

    def test_what_mentions_the_strange_end(self):
        self.check(["try", "  call g", "except late doomed missing present refused waits", "  raise late"], NONE, [
            (WELL, 1), (("late", False, (), (), ()), 1), (("?", False, (), (), ()), 1)])
        self.check(["try", "  call g", "except", "  pass"], NONE, [(WELL, 1)])

    def test_calls_of_functions(self):
        text = "function f\n  call g\n  write a\nfunction g\n  write b\n  maybe\n    doom"
        table = Table(Library(text), names=["f"])
        self.assertEqual(table.faces("f", OPEN), sorted([
            (("", False, ("a", "b"), (), ("a", "b")), 3), (("refused", False, ("b",), (), ("b",)), 3),
            (("doomed", True, ("b",), (), ()), 2), (("refused", False, (), (), ()), 1)]))
        self.assertEqual(table.faces("f", NONE), sorted([
            (("", False, (), ("a", "b"), ()), 3), (("refused", False, (), ("b",), ()), 3),
            (("refused", False, (), (), ()), 1)]))
        self.assertEqual(table.faces("f", ("open", ("b",), ())), [(("waits", False, (), (), ()), 0)])

    def test_guarded_rings(self):
        text = ("function f\n  maybe\n    write a\n    call g\n  raise late\n"
                "function g\n  repeat\n    block apart\n      write b\n    call f")
        lib = Library(text)
        for silent in (False, True):
            for strict in (False, True):
                model = TableModel(text, ["a", "b"], strict, silent).solve(["f", "g"])
                self.assertEqual(Table(lib, strict=strict, silent=silent).certificate, model)
        self.assertEqual(Table(lib, silent=True).faces("f", NONE)[0][1], 1)

    def test_example_of_the_document(self):
        table = Table(library("write a", "write b"))
        self.assertEqual(table.faces("f", NONE), [
            (("", False, (), ("a", "b"), ()), 2), (("refused", False, (), (), ()), 1),
            (("refused", False, (), ("a",), ()), 2)])
        table = Table(library("block inner", "  write a"), silent=True)
        self.assertEqual(table.faces("f", OPEN), [
            (("", False, ("a",), (), ("a",)), 1), (("refused", False, (), (), ()), 1)])
        way = table.way("f", LOST, ("doomed", True, (), (), ()))
        self.assertEqual([len(way), way[1:]], [3, ("doom", "call f")])


class RowTest(unittest.TestCase):
    TEXT = ("function f\n  write a\n  call g\nfunction g\n  block apart\n    call h\nfunction h\n  block outside\n    pass\n"
            "function i\n  write b")

    def places(self, **more):
        return [place for place, _ in Table(Library(self.TEXT), **more).certificate]

    def test_rows_that_are_asked_for_and_no_others(self):
        silent = [(name, case) for name in ("f", "i") for case in (LOST, NONE, OPEN)]
        asked = [("g", NONE), ("g", ("open", (), ("a",))), ("h", OPEN), ("h", ("open", ("a",), ()))]
        self.assertEqual(self.places(names=["f", "i", "f"], silent=True), sorted(silent + asked))
        self.assertEqual(self.places(names=["h"], silent=True), [("h", LOST), ("h", NONE), ("h", OPEN)])
        self.assertEqual(self.places(names=[]), [])
        self.assertEqual(self.places(names=[], silent=True), [])
        every = entry_cases(["a", "b"])
        self.assertEqual(self.places(), [(name, case) for name in "fghi" for case in every])
        self.assertEqual(self.places(), self.places(names=["i", "h", "g", "f", "f"]))
        found = self.places(names=["i", "g"])
        self.assertEqual(found, sorted([(name, case) for name in "gi" for case in every] + [
            ("h", ("open", outer, ())) for outer in ((), ("a",), ("b",), ("a", "b"))]))

    def test_records_that_are_looked_at(self):
        lib = Library("function f\n  write b")
        self.assertEqual(len(Table(lib)), 8)
        table = Table(lib, records=["z", "b"])
        self.assertEqual(len(table), 22)
        self.assertEqual(table.faces("f", ("open", (), ("z",))), [
            (("", False, ("b", "z"), (), ("b",)), 1), (("refused", False, ("z",), (), ()), 1)])
        self.assertEqual(len(Table(lib, records=["z", "b"], silent=True)), 3)

    def test_what_it_tells(self):
        lib = Library(self.TEXT)
        table = Table(lib, names=["f", "i"], silent=True)
        self.assertEqual(len(table), len(table.certificate))
        for place, faces in table.certificate:
            self.assertIs(place in table, True)
            self.assertEqual(table.faces(*place), list(faces))
            self.assertEqual(table.faces(*place), sorted(faces))
        for thing in STRANGE + [("f", ("open", ("b",), ())), ("g", OPEN)]:
            self.assertIs(thing in table, False, thing)

    def test_what_is_returned_is_new(self):
        table = Table(Library(self.TEXT), silent=True)
        found = table.faces("f", NONE)
        before = list(found)
        found.clear()
        self.assertEqual(table.faces("f", NONE), before)
        names, records = ["f"], ["b", "a"]
        table = Table(Library(self.TEXT), names=names, records=records)
        before = table.certificate
        names.append("i")
        records.clear()
        self.assertEqual([table.certificate, names, len(table.faces("f", NONE))], [before, ["f", "i"], 3])
        self.assertNotEqual(table, Table(Library(self.TEXT), names=["f"], records=["a", "b"]).certificate)


class WrongTest(unittest.TestCase):
    def test_errors_in_their_order(self):
        many = Library("function f\n" + "\n".join(f"  write {record}" for record in "abcd") + "\n  pass" * 27)
        long = Library("function f\n  write a" + "\n  pass" * 30)
        self.assertEqual(told_error(lambda: Table(many, names=["f", "h", "g"], records=[])), ("NoFunction", "h"))
        self.assertEqual(told_error(lambda: Table(many, names=["f"], records=["a", "d", "z"])), ("BadRecords", "b"))
        self.assertEqual(told_error(lambda: Table(many, records=[])), ("BadRecords", "a"))
        self.assertEqual(told_error(lambda: Table(many)), ("TooMany", "records"))
        self.assertEqual(told_error(lambda: Table(long, records=["a", "b", "c", "d"])), ("TooMany", "records"))
        self.assertEqual(told_error(lambda: Table(long, names=[])), ("TooMany", "statements"))
        self.assertEqual(told_error(lambda: Table(long, records=["a", "b", "c"])), ("TooMany", "statements"))
        Table(Library("function f\n  write a" + "\n  pass" * 29), records=["a", "b", "c"])
        for error in (BadRecords, NoFace, NoFunction, NoRow, TooMany):
            self.assertTrue(issubclass(error, ValueError))

    def test_no_row(self):
        table = Table(library("write a"))
        for thing in STRANGE:
            name, case = thing if isinstance(thing, tuple) and len(thing) == 2 else (thing, NONE)
            if (name, case) == ("f", NONE):
                continue
            for deed in (table.faces, lambda name, case: table.way(name, case, WELL),
                         lambda name, case: table.way(name, case, 7)):
                with self.assertRaises(NoRow) as caught:
                    deed(name, case)
                self.assertEqual([caught.exception.name, caught.exception.case], [name, case])

    def test_no_face(self):
        table = Table(library("write a"))
        right = ("", False, (), ("a",), ())
        self.assertEqual(table.way("f", NONE, right), ("call f", "yes"))
        wrong = [("", 0, (), ("a",), ()), ("", True, (), ("a",), ()), ("", None, (), ("a",), ()), WELL, list(right),
                 ("", False, [], ("a",), ()), ("", False, (), ["a"], ()), ("", False, (), ("a", "a"), ()),
                 ("", False, (), ("a",), (), ()), ("", False, (), ("a",)), (None, False, (), ("a",), ()),
                 ([], False, (), ("a",), ()), 1, None, "", (), (right, 1), ("", False, (), (True,), ()),
                 ("", False, False, ("a",), ()), ("refused", False, (), ("a",), ()), ("a" * 3000, False, (), (), ())]
        for face in wrong:
            with self.assertRaises(NoFace) as caught:
                table.way("f", NONE, face)
            self.assertEqual(caught.exception.face, face)
        self.assertEqual(told_error(table.way, "f", LOST, ("doomed", 1, (), (), ())),
                         ("NoFace", ("doomed", 1, (), (), ())))


class LongTest(unittest.TestCase):
    def test_numbers_of_some_hundreds(self):
        names = "abcdefg"
        rows = ["function a\n  write x\n  write y\n  write x"]
        for before, name in zip(names, names[1:]):
            rows.append(f"function {name}\n  call {before}\n  call {before}")
        lib = Library("\n".join(rows))
        table = Table(lib, names=["g"], silent=True)
        self.assertEqual(table.faces("g", NONE)[0], (("", False, (), ("x", "y"), ()), 192))
        way = table.way("g", NONE, ("", False, (), ("x", "y"), ()))
        self.assertEqual(way, ("call g",) + ("yes",) * 192)
        self.assertEqual(Table(lib, names=["g"]).faces("g", OPEN)[0][1], 192)

    def test_chains_near_the_greatest_weight(self):
        rows = ["function a" + "\n  write x" * 5 + "\n  write y" * 4, "function b" + "\n  call a" * 6,
                "function c" + "\n  call b" * 6]
        lib = Library("\n".join(rows))
        for silent in (False, True):
            table = Table(lib, names=["c"], silent=silent)
            self.assertEqual(max(number for _, faces in table.certificate for _, number in faces), 324)
            for case in entry_cases(["x", "y"], silent=silent):
                for face, number in table.faces("c", case):
                    play = Play.of(lib, table.way("c", case, face))
                    self.assertEqual([play.case_of(0), play.face_of(0), play.length_of(0)], [case, face, number])

    def test_nothing_comes_to_the_limit_of_calls_in_one_another(self):
        names = "abcdefghijk"
        rows = [f"function {name}\n  maybe\n    call {after}" for name, after in zip(names, names[1:])]
        lib = Library("\n".join([*rows, "function k\n  repeat\n    write x\n    maybe\n      call a"]))
        limit = sys.getrecursionlimit()
        sys.setrecursionlimit(len(inspect.stack()) + 60)
        try:
            table = Table(lib)
            way = table.way("a", NONE, ("refused", False, (), ("x",), ()))
            fates = Fates(lib, "a").sets()
            run = Run(lib, Library("function s\n  call a"), "s", ["yes"] * 3000)
        finally:
            sys.setrecursionlimit(limit)
        self.assertEqual([len(way), fates], [16, [(), ("x",)]])
        self.assertEqual([run.whole.is_over, run.alone.is_over, len(run.whole.moves) > 3000], [True] * 3)

    def test_calls_that_are_forced_to_go_deep(self):
        text = ("function f\n  try\n    maybe\n      call g\n      call g\n      call g\n      call g\n      raise done\n    raise other\n"
                "  except done\n    pass\nfunction g\n  try\n    repeat\n      call h\n      call h\n      call h\n      call h\n"
                "      call h\n      raise done\n    raise other\n  except done\n    pass\n"
                "function h\n  write a\n  write b\n  write a")
        lib = Library(text)
        self.assertEqual(len(lib), 22)
        table = Table(lib, names=["f"])
        number = 1 + 4 * (1 + 5 * 3)
        self.assertEqual(table.faces("f", NONE)[0], (("", False, (), ("a", "b"), ()), number))
        way = table.way("f", NONE, ("", False, (), ("a", "b"), ()))
        self.assertEqual(Play.of(lib, way).face_of(0), ("", False, (), ("a", "b"), ()))


if __name__ == "__main__":
    unittest.main()
