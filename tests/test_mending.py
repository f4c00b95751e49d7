"""Mends: 35."""

import itertools
import random
import unittest

from innercommits.errors import NoFunction, TooMany
from innercommits.fates import Fates, judge
from innercommits.mending import come_true, mends
from innercommits.modes import Mode
from innercommits.rules import Rule
from innercommits.texts import Library
from tests.explorer import some_library
from tests.helpers import library, told_error

ALWAYS = Rule.always()
BOTH = Rule.together("a", "b")


def plainly_true(lib, wishes, **more):
    """Whether all wishes come true, by the fates and the verdicts."""
    for name, rule, wanted in wishes:
        if not judge(lib, name, rule, **more) or not all(some in Fates(lib, name, **more) for some in wanted):
            return False
    return True


def plain_mends(lib, wishes, **more):
    """All changes of the blocks, one by one."""
    modes = lib.blocks()
    for many in range(len(modes) + 1):
        found = []
        for numbers in itertools.combinations(range(len(modes)), many):
            for others in itertools.product(*[[mode for mode in Mode.ALL if mode != modes[number]] for number in numbers]):
                change = tuple(zip(numbers, others))
                if plainly_true(lib.changed(change), wishes, **more):
                    found.append(change)
        if found:
            return sorted(found)
    return []


class ComeTrueTest(unittest.TestCase):
    LIB = Library("function f\n  block join\n    write a\n    write b\nfunction g\n  write a\n  write b")

    def test_wishes(self):
        for wishes, good in (
                ([], True),
                ([("f", BOTH, ())], True),
                ([("g", BOTH, ())], False),
                ([("f", BOTH, (("a", "b"),))], True),
                ([("f", BOTH, ((), ("a", "b"), ()))], True),
                ([("f", BOTH, (("a",),))], False),
                ([("g", ALWAYS, (("a",), ("a", "b")))], True),
                ([("g", ALWAYS, (("b",),))], False),
                ([("g", ALWAYS, (("a", "z"),))], False),
                ([("f", BOTH, ()), ("g", ALWAYS, (("a",),))], True),
                ([("f", BOTH, ()), ("g", ALWAYS, (("b",),))], False),
                ([("g", BOTH, ()), ("f", BOTH, ())], False),
                ([("f", Rule.has("z"), ())], False),
                ([("f", ~Rule.has("z"), ((),))], True)):
            self.assertIs(come_true(self.LIB, wishes), good, wishes)
        self.assertIs(come_true(library=self.LIB, wishes=[], strict=True, silent=True), True)

    def test_strict_and_silent(self):
        lib = library("try", "  write a", "except waits", "  write b")
        self.assertEqual([come_true(lib, [("f", ~Rule.has("b"), ())], silent=silent) for silent in (False, True)],
                         [False, True])
        lib = library("block join", "  write a", "  try", "    write b", "  except", "    pass")
        self.assertEqual([come_true(lib, [("f", BOTH, ())], strict=strict) for strict in (False, True)], [False, True])

    def test_errors(self):
        many = Library("function f\n" + "\n".join(f"  write {record}" for record in "abcd") + "\n  pass" * 27)
        long = Library("function f\n  write a" + "\n  pass" * 30)
        wishes = [("f", ALWAYS, ()), ("h", ALWAYS, ()), ("g", ALWAYS, ())]
        for deed in (come_true, mends):
            self.assertEqual(told_error(deed, many, wishes), ("NoFunction", "h"))
            self.assertEqual(told_error(deed, many, wishes[:1]), ("TooMany", "records"))
            self.assertEqual(told_error(deed, many, []), ("TooMany", "records"))
            self.assertEqual(told_error(deed, long, []), ("TooMany", "statements"))
        for error in (NoFunction, TooMany):
            self.assertTrue(issubclass(error, ValueError))


class MendsTest(unittest.TestCase):
    LIB = library("block join", "  write a", "  block apart", "    write b")
    WISHES = [("f", BOTH, (("a", "b"),))]

    def test_example_of_the_document(self):
        self.assertEqual(mends(self.LIB, self.WISHES),
                         [((1, "either"),), ((1, "inner"),), ((1, "join"),), ((1, "must"),)])

    def test_nothing_to_mend_and_no_mend(self):
        self.assertEqual(mends(self.LIB, []), [()])
        self.assertEqual(mends(self.LIB, [("f", ALWAYS, ())]), [()])
        self.assertEqual(mends(self.LIB, [("f", ALWAYS, (("a", "b", "c"),))]), [])
        self.assertEqual(mends(self.LIB, [("f", ~ALWAYS, ())]), [])
        self.assertEqual(mends(library("write a"), [("f", ~Rule.has("a"), ())]), [])
        self.assertEqual(mends(library("write a"), [("f", Rule.always(), (("a",),))]), [()])

    def test_what_is_returned_is_new_and_nothing_else_changes(self):
        wishes = list(self.WISHES)
        before = str(self.LIB)
        found = mends(library=self.LIB, wishes=wishes, strict=False, silent=False)
        found.clear()
        self.assertEqual(len(mends(self.LIB, wishes)), 4)
        self.assertEqual([str(self.LIB), self.LIB.blocks(), wishes], [before, ["join", "apart"], self.WISHES])

    def test_several_blocks(self):
        lib = library("block apart", "  write a", "block apart", "  write b")
        self.assertEqual(mends(lib, [("f", ~Rule.has("a") & ~Rule.has("b"), ())])[:2], [])
        wishes = [("f", Rule.has("a") >> Rule.has("b"), ()), ("f", ALWAYS, (("b",),))]
        self.assertEqual(mends(lib, wishes), plain_mends(lib, wishes))
        lib = library("block apart", "  write a", "  block apart", "    write b", "    block apart", "      write c")
        wishes = [("f", Rule.together("a", "b", "c"), (("a", "b", "c"),))]
        found = mends(lib, wishes)
        self.assertEqual(found, [((1, one), (2, other)) for one in ("either", "inner", "join", "must")
                                 for other in ("either", "inner", "join", "must")])
        self.assertEqual(found, plain_mends(lib, wishes))

    def test_too_many_blocks(self):
        four = Library("function f\n" + "  block join\n    pass\n" * 3 + "  block join\n    write a")
        self.assertEqual(told_error(mends, four, []), ("TooMany", "blocks"))
        self.assertEqual(told_error(mends, four, [("g", ALWAYS, ())]), ("NoFunction", "g"))
        larger = Library(str(four) + "".join(f"\n    write {record}" for record in "bcd") + "\n  pass" * 30)
        self.assertEqual(told_error(mends, larger, []), ("TooMany", "blocks"))
        self.assertTrue(come_true(four, []))
        self.assertEqual(mends(library("block join", "  pass", "block join", "  pass", "block join", "  pass"), []), [()])

    def test_against_all_changes_one_by_one(self):
        chance = random.Random(51)
        done = {}
        while sum(done.values()) < 40:
            text = some_library(chance, chance.randint(2, 5), called=("f", "g", "g"), records=("a", "b"), most=9)
            lib = Library(text)
            many = len(lib.blocks())
            if not 1 <= many <= 3 or (many == 3 and done.get(3, 0) >= 4) or done.get(many, 0) >= 20:
                continue
            done[many] = done.get(many, 0) + 1
            wishes = chance.choice((
                [("f", BOTH, (("a", "b"),))], [("f", Rule.has("a") >> Rule.has("b"), ())],
                [("f", ALWAYS, (("b",),)), ("g", ALWAYS, ())], [("g", ~Rule.has("a"), ((),)), ("f", ALWAYS, (("a",),))],
                [("f", BOTH, ()), ("g", BOTH, ())], [("f", ~Rule.has("b"), ())]))
            more = {"strict": chance.random() < 0.5, "silent": chance.random() < 0.5}
            self.assertEqual(come_true(lib, wishes, **more), plainly_true(lib, wishes, **more))
            found = mends(lib, wishes, **more)
            self.assertEqual(found, plain_mends(lib, wishes, **more), (text, wishes))
            for mend in found:
                self.assertTrue(come_true(lib.changed(mend), wishes, **more))

    def test_long_keep_lists(self):
        lib = Library("function f\n  block join keep " + " ".join(["late"] * 1190) + "\n    write a")
        # With some modes the text is longer than one of which a library is made.
        self.assertEqual(mends(lib, [("f", ~Rule.has("a"), ())]), [])
        self.assertEqual(mends(lib, [("f", Rule.always(), (("a",),))]), [()])


if __name__ == "__main__":
    unittest.main()
