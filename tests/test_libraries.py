"""What a library tells of its text, its bounds, joining and changing."""

import unittest

from innercommits.errors import BadChange, BadLibrary, Clash, Endless, NoFunction, TooMany
from innercommits.modes import Mode
from innercommits.rules import Rule
from innercommits.texts import Library
from tests.helpers import NO_WORDS

COMMON = ["doomed", "missing", "present", "refused", "waits"]
WHOLE = """function pay
  block apart keep late bad late
    write z
    try
      call stock
      raise gone
    except missing lost
      doom
    except
      write a
    finally
      pass
  call bank
function alone
  block never
    pass
  repeat
    maybe
      call alone
    block outside
      call web"""


def function(name, *lines):
    return "\n".join(["function " + name, *["  " + line for line in lines]])


def guarded(name, called):
    return function(name, "maybe", "  call " + called)


class TellTest(unittest.TestCase):
    def test_all_that_it_tells(self):
        library = Library(WHOLE)
        self.assertEqual(library.functions(), ["alone", "pay"])
        self.assertEqual(library.records(), ["a", "z"])
        self.assertEqual(library.errors(), sorted(COMMON + ["late", "bad", "gone", "lost"]))
        self.assertEqual(library.unknown(), ["bank", "stock", "web"])
        self.assertEqual(library.blocks(), ["apart", "never", "outside"])
        self.assertEqual(len(library), 16)
        self.assertEqual(str(library), WHOLE)

    def test_the_least_library(self):
        library = Library("function f\n  pass")
        self.assertEqual([library.functions(), library.records(), library.errors(), library.unknown(),
                          library.blocks(), len(library)], [["f"], [], COMMON, [], [], 1])

    def test_example_of_the_document(self):
        library = Library("function f\n  block join keep late\n    write a\n  call g")
        self.assertEqual(
            [library.errors(), library.unknown(), len(library), library.blocks()],
            [["doomed", "late", "missing", "present", "refused", "waits"], ["g"], 3, ["join"]])
        with self.assertRaises(BadLibrary) as caught:
            Library("function f\n  maybe\n  write a")
        self.assertEqual(caught.exception.line, 2)

    def test_each_line_that_mentions_an_error(self):
        for line in ("raise odd", "block join keep odd\n    pass", "block join keep e odd\n    pass",
                     "try\n    pass\n  except odd\n    pass", "try\n    pass\n  except e odd e\n    pass"):
            self.assertIn("odd", Library("function f\n  " + line).errors(), line)
        for line in ("write odd", "call odd"):
            self.assertNotIn("odd", Library("function f\n  " + line).errors(), line)
        self.assertNotIn("join", Library("function f\n  block join keep e\n    pass").errors())
        self.assertNotIn("keep", Library("function f\n  block join keep e\n    pass").errors())

    def test_statements_are_all_lines_but_three_kinds(self):
        text = "function f\n  try\n    pass\n  except\n    pass\n  finally\n    pass\nfunction g\n  doom"
        self.assertEqual(len(Library(text)), 5)

    def test_in(self):
        library = Library(WHOLE)
        for name in ("pay", "alone"):
            self.assertIs(name in library, True)
        for thing in NO_WORDS + ["stock", "a", "late", "function", "function pay", ["pay"], ("pay",), {}]:
            self.assertIs(thing in library, False)

    def test_lines_of_a_function(self):
        library = Library(WHOLE)
        lines = WHOLE.split("\n")
        self.assertEqual(library["pay"], lines[:13])
        self.assertEqual(library["alone"], lines[13:])
        text = "function f\n  call function\nfunction function\n  raise f\nfunction g\n  pass"
        library = Library(text)
        self.assertEqual(library["f"] + library["function"] + library["g"], text.split("\n"))
        self.assertEqual(library["function"], ["function function", "  raise f"])

    def test_names_of_no_function(self):
        library = Library(WHOLE)
        for thing in NO_WORDS + ["stock", "pa", "payy", "a", ["pay"], ("pay",)]:
            with self.assertRaises(NoFunction) as caught:
                library[thing]
            self.assertEqual(caught.exception.name, thing)
            self.assertIs(type(caught.exception.name), type(thing))

    def test_what_is_returned_is_new(self):
        library = Library(WHOLE)
        for told in (library.functions, library.records, library.errors, library.unknown, library.blocks,
                     lambda: library["pay"]):
            before = told()
            copy = list(before)
            before.append("x")
            before[0] = "y"
            self.assertEqual(told(), copy)
            self.assertIsInstance(told(), list)
        self.assertEqual(str(library), WHOLE)

    def test_equality(self):
        library = Library(WHOLE)
        self.assertIs(library == Library(WHOLE), True)
        self.assertIs(library != Library(WHOLE), False)
        other = Library(WHOLE.replace("write z", "write y"))
        self.assertIs(library == other, False)
        self.assertIs(library != other, True)
        text = "function f\n  pass"
        self.assertFalse(Library(text) == Library(text + "\n  pass"))
        for thing in (WHOLE, [WHOLE], None, 16, True, Rule.always(), {"text": WHOLE}):
            self.assertIs(library == thing, False)
            self.assertIs(thing == library, False)

    def test_it_is_not_iterated_over(self):
        with self.assertRaises(TypeError):
            list(Library(WHOLE))


class BoundTest(unittest.TestCase):
    def check(self, text, what):
        if what is None:
            self.assertEqual(str(Library(text)), text)
            return
        with self.assertRaises(TooMany) as caught:
            Library(text)
        self.assertEqual(caught.exception.what, what)

    def functions(self, many, line="pass"):
        return "\n".join([function("f" + chr(97 + n), line) for n in range(many)])

    def lines(self, kind, many):
        return [f"{kind} r{chr(97 + n)}" for n in range(many)]

    def test_functions(self):
        self.check(self.functions(12), None)
        self.check(self.functions(13), "functions")

    def test_statements(self):
        self.check(function("f", *["pass"] * 80), None)
        self.check(function("f", *["pass"] * 81), "statements")
        parts = ["try", "  pass", "except e", "  pass", "finally", "  pass"]
        self.check(function("f", *parts * 20) + "\n" + function("g", "pass"), "statements")
        self.check(function("f", *parts * 19) + "\n" + function("g", *["doom"] * 4), None)

    def test_records(self):
        self.check(function("f", *self.lines("write", 6), *self.lines("write", 6)), None)
        self.check(function("f", *self.lines("write", 7)), "records")

    def test_errors(self):
        six = [f"e{chr(97 + n)}" for n in range(6)]
        for words in (six, six + six, six + COMMON):
            self.check(function("f", "block join keep " + " ".join(words), "  pass"), None)
        self.check(function("f", "block join keep " + " ".join(six + ["odd"]), "  pass"), "errors")
        self.check(function("f", *["raise " + word for word in six], "try", "  pass", "except odd", "  pass"),
                   "errors")
        self.check(function("f", *["raise " + word for word in six], "try", "  pass", "except waits", "  pass"),
                   None)

    def test_blocks(self):
        self.check(function("f", *["block join", "  pass"] * 16), None)
        self.check(function("f", *["block join", "  pass"] * 17), "blocks")

    def test_unknown(self):
        self.check(function("f", *self.lines("call", 4), *self.lines("call", 4)), None)
        self.check(function("f", *self.lines("call", 5)), "unknown")
        self.check(function("f", *self.lines("call", 5)) + "\n" + function("rb", "pass"), None)

    def test_their_order(self):
        parts = {
            "functions": self.functions(13),
            "statements": function("s", *["pass"] * 81),
            "records": function("r", *self.lines("write", 7)),
            "errors": function("e", *self.lines("raise", 7)),
            "blocks": function("b", *["block join", "  pass"] * 17),
            "unknown": function("u", *self.lines("call", 5)),
        }
        names = list(parts)
        for at, what in enumerate(names):
            for text in ("\n".join(parts[name] for name in names[at:]),
                         "\n".join(parts[name] for name in reversed(names[at:]))):
                self.check(text + "\n" + function("end", "call end"), what)

    def test_endless_comes_ahead_of_weight_and_behind_the_others(self):
        text = function("f", *["call g"] * 5) + "\n" + function("g", *["pass"] * 75)
        with self.assertRaises(Endless):
            Library(text.replace("pass", "call f", 1))
        with self.assertRaises(TooMany) as caught:
            Library(text + "\n  pass")
        self.assertEqual(caught.exception.what, "statements")


class EndlessTest(unittest.TestCase):
    def check(self, text, name):
        if name is None:
            self.assertEqual(str(Library(text)), text)
            return
        with self.assertRaises(Endless) as caught:
            Library(text)
        self.assertEqual(caught.exception.name, name)

    def test_directly(self):
        self.check(function("f", "call f"), "f")

    def test_through_each_statement_that_has_bodies(self):
        for lines in (["block never", "  call f"], ["block join keep e", "  call f"],
                      ["try", "  call f", "finally", "  pass"], ["try", "  pass", "except e", "  call f"],
                      ["try", "  pass", "except", "  call f"], ["try", "  pass", "finally", "  call f"],
                      ["try", "  pass", "except e", "  pass", "except", "  pass", "finally", "  call f"]):
            self.check(function("f", *lines), "f")
            self.check(function("f", "block join", *["  " + line for line in lines]), "f")

    def test_behind_an_error_that_is_raised_before(self):
        self.check(function("f", "raise e", "call f"), "f")

    def test_not_if_guarded(self):
        for word in ("maybe", "repeat"):
            self.check(function("f", word, "  call f"), None)
            self.check(function("f", word, "  block join", "    try", "      call f", "    except", "      pass"),
                       None)
            self.check(function("f", "try", "  pass", "except", f"  {word}", "    call f"), None)
            self.check(function("f", word, "  pass", "call f"), "f")

    def test_through_several_functions_the_first_is_told(self):
        self.check(function("x", "call c") + "\n" + function("c", "call b") + "\n"
                   + function("b", "call a") + "\n" + function("a", "call c"), "c")
        self.check(function("b", "call a") + "\n" + function("a", "call b"), "b")
        self.check(guarded("x", "a") + "\n" + function("a", "call x"), None)
        self.check(function("x", "maybe", "  call a", "call a") + "\n" + function("a", "call x"), "x")
        self.check(function("x", "call a", "call b") + "\n" + function("a", "pass") + "\n"
                   + function("b", "call c", "call a") + "\n" + function("c", "call c"), "c")

    def test_not_through_unknown_functions(self):
        self.check(function("f", "call g"), None)


class WeightTest(unittest.TestCase):
    def check(self, text, right):
        if right:
            self.assertEqual(str(Library(text)), text)
            return
        with self.assertRaises(TooMany) as caught:
            Library(text)
        self.assertEqual(caught.exception.what, "weight")

    def test_400_and_one_more(self):
        # 8 calls, each with the 49 statements of g: 8 + 8 * 49 = 400.
        text = function("f", *["call g"] * 8) + "\n" + function("g", *["pass"] * 49)
        self.check(text, True)
        self.check(text + "\n  pass", False)
        self.check(function("g", *["pass"] * 49) + "\n" + function("f", "doom", *["call g"] * 8), False)
        self.check(text.replace("call g", "call h", 1), True)

    def test_calls_in_each_part_of_a_statement(self):
        lines = ["block join", "  call g", "  try", "    call g", "  except e", "    call g",
                 "  except", "    call g", "  finally", "    call g"]
        # block, try and five calls: 7 + 5 * 78 = 397.
        text = function("f", *lines) + "\n" + function("g", *["call h"] * 6) + "\n" + function("h", *["pass"] * 12)
        self.check(text, True)
        self.check(text + "\nfunction end\n  pass", True)
        self.check(text.replace("function f", "function f" + "\n  pass" * 3), True)
        self.check(text.replace("function f", "function f" + "\n  pass" * 4), False)

    def test_what_is_guarded_counts_for_its_own_body(self):
        for word in ("maybe", "repeat"):
            body = ["  call g"] * 8
            text = function("f", word, *body) + "\n" + function("g", *["pass"] * 49)
            self.check(text, True)
            self.check(text.replace("function f", "function f\n  pass"), True)
            self.check(text + "\n  pass", False)
            self.check(text.replace(f"  {word}", f"  {word}\n    doom"), False)
            deep = function("f", "block join", f"  {word}", f"    {word}", *["    " + line for line in body])
            self.check(deep + "\n" + function("g", *["pass"] * 49), True)
            self.check(deep + "\n" + function("g", *["pass"] * 50), False)

    def test_guarded_bodies_that_the_called_functions_have_do_not_count(self):
        heavy = function("g", "maybe", *["  pass"] * 70)
        self.check(function("f", *["call g"] * 4) + "\n" + heavy, True)

    def test_numbers_of_many_figures(self):
        names = [chr(97 + n) for n in range(12)]
        parts = [function(name, *["call " + other] * 6) for name, other in zip(names, names[1:])]
        self.check("\n".join(parts + [function("l", "pass")]), False)
        self.check("\n".join([function("z", "maybe", "  call a")] + parts[1:] + [function("l", "pass")]), False)


class JoinedTest(unittest.TestCase):
    def test_one_and_several(self):
        texts = [function("f", "call g"), function("g", "write a", "call h"), function("e", "pass")]
        one, two, three = [Library(text) for text in texts]
        self.assertEqual(str(Library.joined(one)), texts[0])
        self.assertTrue(Library.joined(one) == one)
        whole = Library.joined(one, two, three)
        self.assertIsInstance(whole, Library)
        self.assertEqual(str(whole), "\n".join(texts))
        self.assertEqual([whole.functions(), whole.unknown(), whole.records()], [["e", "f", "g"], ["h"], ["a"]])
        self.assertEqual(str(Library.joined(three, one)), texts[2] + "\n" + texts[0])
        self.assertEqual([str(one), str(two), str(three)], texts)
        self.assertEqual(one.unknown(), ["g"])

    def test_none(self):
        with self.assertRaises(BadLibrary) as caught:
            Library.joined()
        self.assertEqual(caught.exception.line, 0)

    def test_clash(self):
        one = Library(function("f", "pass") + "\n" + function("d", "pass") + "\n" + function("a", "pass"))
        two = Library(function("g", "pass") + "\n" + function("f", "doom"))
        three = Library(function("e", "pass") + "\n" + function("d", "pass"))
        for libraries, name in (((one, two), "f"), ((two, one), "f"), ((one, two, three), "d"), ((one, one), "a"),
                                ((two, three, one), "d"), ((three, two, two), "f")):
            with self.assertRaises(Clash) as caught:
                Library.joined(*libraries)
            self.assertEqual(caught.exception.name, name)

    def test_clash_comes_ahead_of_the_others(self):
        big = Library(function("f", *["pass"] * 80))
        with self.assertRaises(Clash):
            Library.joined(big, big)

    def check(self, what, *texts):
        with self.assertRaises(TooMany) as caught:
            Library.joined(*[Library(text) for text in texts])
        self.assertEqual(caught.exception.what, what)

    def test_errors_of_the_joined_text(self):
        self.check("functions", *[function("f" + chr(97 + n), "pass") for n in range(13)])
        self.check("statements", function("f", *["pass"] * 40), function("g", *["pass"] * 41))
        self.check("records", function("f", *["write a" + c for c in "abcd"]),
                   function("g", *["write b" + c for c in "abc"]))
        self.check("errors", function("f", *["raise a" + c for c in "abcd"]),
                   function("g", *["raise b" + c for c in "abc"]))
        self.check("blocks", *[function(name, *["block join", "  pass"] * 9) for name in "fg"])
        self.check("unknown", function("f", "call a", "call b", "call c"), function("g", "call d", "call e"))
        self.check("weight", function("f", *["call g"] * 9), function("g", *["pass"] * 49))
        words = " ".join(["late"] * 700)
        self.check("characters", *[function(name, "block join keep " + words, "  pass") for name in "fg"])
        with self.assertRaises(Endless) as caught:
            Library.joined(Library(function("f", "call g")), Library(function("g", "call f")))
        self.assertEqual(caught.exception.name, "f")

    def test_calls_reach_the_others(self):
        whole = Library.joined(Library(function("f", "call g")), Library(function("g", "pass")))
        self.assertEqual(whole.unknown(), [])


class ChangedTest(unittest.TestCase):
    def test_nothing_else_changes(self):
        library = Library(WHOLE)
        changed = library.changed([(2, "inner"), (0, "join")])
        self.assertIsInstance(changed, Library)
        self.assertEqual(changed.blocks(), ["join", "never", "inner"])
        expected = WHOLE.replace("block apart keep", "block join keep").replace("block outside", "block inner")
        self.assertEqual(str(changed), expected)
        self.assertEqual([str(library), library.blocks()], [WHOLE, ["apart", "never", "outside"]])
        self.assertTrue(changed == Library(expected))
        self.assertEqual(changed["alone"], expected.split("\n")[13:])
        self.assertEqual([changed.errors(), len(changed)], [library.errors(), len(library)])

    def test_each_mode_for_each_mode(self):
        for old in Mode.ALL:
            library = Library(f"function f\n  block {old} keep {old} join\n    write a\n  block {old}\n    pass")
            for new in Mode.ALL:
                self.assertEqual(
                    str(library.changed(((0, new),))),
                    f"function f\n  block {new} keep {old} join\n    write a\n  block {old}\n    pass")
                self.assertEqual(library.changed([(1, new)]).blocks(), [old, new])

    def test_words_like_those_of_a_block(self):
        library = Library("function block\n  block join keep block join\n    block apart\n      raise block")
        self.assertEqual(
            str(library.changed([(0, "apart"), (1, "join")])),
            "function block\n  block apart keep block join\n    block join\n      raise block")

    def test_no_changes(self):
        library = Library(WHOLE)
        self.assertTrue(library.changed(()) == library)
        self.assertTrue(library.changed([]) == library)

    def test_the_argument_is_not_changed(self):
        changes = [(0, "join")]
        Library(WHOLE).changed(changes)
        self.assertEqual(changes, [(0, "join")])

    def test_wrong_changes(self):
        library = Library(WHOLE)
        wrong = NO_WORDS + [
            (3, "join"), (-1, "join"), (True, "join"), (False, "join"), ("0", "join"), (None, "join"),
            (0, "joined"), (0, ""), (0, None), (0, 1), (0, ["join"]), (0, ("join",)), (0, "JOIN"), [0, "join"],
            (0,), (0, "join", "inner"), ("join", 0), ((0,), "join"), ([], "join"), ((0, "join"),), "0j", "join",
        ]
        for thing in wrong:
            for before in ([], [(1, "inner")], [(2, "inner"), (0, "apart")]):
                for changes in (before + [thing], tuple(before + [thing, None, (1, "join")])):
                    with self.assertRaises(BadChange) as caught:
                        library.changed(changes)
                    self.assertEqual(caught.exception.index, len(before), changes)
        self.assertEqual(str(library), WHOLE)

    def test_a_number_that_occurred_before(self):
        for changes, index in (([(0, "join"), (0, "inner")], 1), ([(1, "join"), (0, "join"), (1, "join")], 2),
                               ([(1, "never"), (1, "never")], 1)):
            with self.assertRaises(BadChange) as caught:
                Library(WHOLE).changed(changes)
            self.assertEqual(caught.exception.index, index)
        with self.assertRaises(BadChange) as caught:
            Library("function f\n  pass").changed([(0, "join")])
        self.assertEqual(caught.exception.index, 0)

    def test_the_text_may_become_longer_than_6000(self):
        start, rest = "function f\n  block join keep ", "\n    pass"
        many, left = divmod(6000 - len(start) - len(rest) - 4, 3)
        text = start + "late" + "x" * left + " ee" * many + rest
        library = Library(text)
        longer = library.changed([(0, "outside")])
        self.assertEqual([len(str(library)), len(str(longer))], [6000, 6003])
        self.assertEqual(longer.blocks(), ["outside"])
        again = longer.changed([(0, "either")])
        self.assertEqual(len(str(again)), 6002)
        self.assertTrue(again.changed([(0, "join")]) == library)
        with self.assertRaises(TooMany) as caught:
            Library.joined(longer)
        self.assertEqual(caught.exception.what, "characters")
        with self.assertRaises(TooMany):
            Library(str(longer))


if __name__ == "__main__":
    unittest.main()
