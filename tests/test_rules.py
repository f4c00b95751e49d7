"""Rules: point 9 and the section of the interface on them."""

import itertools
import random
import unittest

from innercommits.errors import BadWord, TooMany
from innercommits.rules import Rule
from innercommits.texts import Library
from tests.helpers import NO_WORDS

SIX = ("a", "b", "c", "d", "e", "f")


def every_set(records):
    """All sets of the records and of one that no rule here mentions."""
    records = sorted({*records, "other"})
    return [tuple(some) for many in range(len(records) + 1)
            for some in itertools.combinations(records, many)]


def make(tree):
    """The rule of a tree of tuples."""
    if tree[0] in ("has", "together", "always"):
        return getattr(Rule, tree[0])(*tree[1:])
    parts = [make(part) for part in tree[1:]]
    if tree[0] == "not":
        return ~parts[0]
    if tree[0] == "and":
        return parts[0] & parts[1]
    if tree[0] == "or":
        return parts[0] | parts[1]
    return parts[0] >> parts[1]


def allows(tree, kept):
    """Whether the rule of a tree allows the set, by the words of point 9."""
    if tree[0] == "has":
        return tree[1] in kept
    if tree[0] == "together":
        return len({record in kept for record in tree[1:]}) < 2
    if tree[0] == "always":
        return True
    parts = [allows(part, kept) for part in tree[1:]]
    if tree[0] == "not":
        return not parts[0]
    if tree[0] == "and":
        return parts[0] and parts[1]
    if tree[0] == "or":
        return parts[0] or parts[1]
    return not parts[0] or parts[1]


def told(tree):
    """The rule of a tree as its str is to be."""
    if tree[0] == "has":
        return tree[1]
    if tree[0] == "together":
        return "together(" + " ".join(sorted(set(tree[1:]))) + ")"
    if tree[0] == "always":
        return "always()"
    if tree[0] == "not":
        return "not " + told(tree[1])
    return "(" + told(tree[1]) + " " + tree[0] + " " + told(tree[2]) + ")"


def mentioned(tree):
    if tree[0] in ("has", "together", "always"):
        return set(tree[1:])
    return set().union(*[mentioned(part) for part in tree[1:]])


def grown(chance, deep, records):
    """A tree by chance, as deep as this at most."""
    kind = chance.choice(("has", "together", "always", "not", "and", "or", "needs", "and", "or"))
    if deep == 0 or kind in ("has", "together", "always"):
        kind = chance.choice(("has", "has", "together", "always"))
        many = {"has": 1, "together": chance.randrange(4), "always": 0}[kind]
        return (kind, *[chance.choice(records) for _ in range(many)])
    return (kind, *[grown(chance, deep - 1, records) for _ in range(1 if kind == "not" else 2)])


class AllowedTest(unittest.TestCase):
    def check(self, tree):
        rule = make(tree)
        for kept in every_set(mentioned(tree)):
            self.assertIs(rule(kept), allows(tree, kept), (tree, kept))
        self.assertEqual(str(rule), told(tree))
        self.assertEqual(rule.records(), sorted(mentioned(tree)))

    def test_has(self):
        self.check(("has", "a"))
        self.check(("has", "abcdefgh"))

    def test_always(self):
        self.check(("always",))

    def test_together_of_none_to_six(self):
        for many in range(7):
            self.check(("together", *SIX[:many]))
        for kept in every_set("a"):
            self.assertIs(Rule.together()(kept), True)
            self.assertIs(Rule.together("a")(kept), True)

    def test_together_in_any_order_and_with_repetitions(self):
        self.check(("together", "c", "a", "b", "a", "c"))
        self.check(("together", *SIX[::-1], *SIX))

    def test_each_operator(self):
        parts = [("has", "a"), ("together", "b", "c"), ("always",), ("not", ("has", "b"))]
        for sign in ("and", "or", "needs"):
            for one, other in itertools.product(parts, repeat=2):
                self.check((sign, one, other))
        for part in parts:
            self.check(("not", part))

    def test_needs_is_no_equivalence(self):
        rule = Rule.has("a") >> Rule.has("b")
        self.assertEqual([rule(()), rule(("a",)), rule(("b",)), rule(("a", "b"))],
                         [True, False, True, True])

    def test_up_to_four_deep(self):
        chance = random.Random(9)
        for _ in range(300):
            self.check(grown(chance, 4, "abcde"))

    def test_thirty_deep_and_a_hundred_operators(self):
        tree = ("has", "a")
        for number in range(30):
            tree = ("not", tree) if number % 3 == 0 else ("or", tree, ("and", ("has", "b"), ("has", "c")))
        self.check(tree)
        tree = ("has", "a")
        for number in range(100):
            tree = (("and", "or", "needs")[number % 3], tree, ("has", SIX[number % 6]))
        self.check(tree)

    def test_sets_in_any_order_with_repetitions_as_tuples_and_lists(self):
        rule = Rule.together("a", "b", "c") & Rule.has("a")
        for kept in (("c", "a", "b"), ["b", "b", "c", "a", "a"], ("a", "x", "b", "c", "x")):
            before = list(kept)
            self.assertIs(rule(kept), True)
            self.assertEqual(list(kept), before)
        self.assertIs(rule(["b", "b"]), False)
        self.assertIs(rule(kept=["a"]), False)

    def test_example_of_the_document(self):
        rule = Rule.has("a") >> Rule.together("b", "c")
        self.assertEqual([rule(("b",)), rule(("a", "b")), rule(()), str(rule)],
                         [True, False, True, "(a needs together(b c))"])

    def test_str_of_each_kind(self):
        one, other = Rule.has("one"), Rule.together("z", "y", "z")
        self.assertEqual(
            [str(one), str(other), str(Rule.together()), str(Rule.together("a")), str(Rule.always())],
            ["one", "together(y z)", "together()", "together(a)", "always()"])
        self.assertEqual(
            [str(one & other), str(one | other), str(one >> other), str(~one), str(~(~one & other))],
            ["(one and together(y z))", "(one or together(y z))", "(one needs together(y z))",
             "not one", "not (not one and together(y z))"])


class ChangeTest(unittest.TestCase):
    def test_operators_leave_their_rules_as_they_are(self):
        one, other = Rule.has("a"), Rule.together("b", "c")
        made = [one & other, one | other, one >> other, ~one, ~other]
        self.assertEqual([str(one), str(other)], ["a", "together(b c)"])
        self.assertEqual([one.records(), other.records()], [["a"], ["b", "c"]])
        self.assertEqual([one(("a",)), other(("b",)), one(()), other(())], [True, False, False, True])
        self.assertEqual(len({str(rule) for rule in made}), 5)

    def test_records_are_new_each_time(self):
        rule = Rule.together("b", "a")
        found = rule.records()
        found.append("c")
        found[0] = "x"
        self.assertEqual(rule.records(), ["a", "b"])
        self.assertEqual(str(rule), "together(a b)")


class EqualTest(unittest.TestCase):
    def test_rules_that_are_written_in_other_ways(self):
        a, b, c = Rule.has("a"), Rule.has("b"), Rule.has("c")
        pairs = [
            (a >> b, ~a | b), (~(a & b), ~a | ~b), (~~a, a), (a & a, a), (a | ~a, Rule.always()),
            (Rule.together("a", "b"), (a >> b) & (b >> a)), (Rule.together("b", "a"), Rule.together("a", "b")),
            (Rule.together(), Rule.together("c")), (Rule.together("a"), Rule.always()),
            (a & (b | ~b), a), (a & (b | c), (a & b) | (a & c)), (a & ~a, b & ~b),
        ]
        for one, other in pairs:
            self.assertTrue(one == other, (str(one), str(other)))
            self.assertFalse(one != other)
            self.assertIs(other == one, True)

    def test_unequal_rules(self):
        a, b = Rule.has("a"), Rule.has("b")
        rules = [a, b, ~a, a & b, a | b, a >> b, b >> a, Rule.together("a", "b"), Rule.always(), a & ~a,
                 Rule.together("a", "b", "c")]
        for one, other in itertools.combinations(rules, 2):
            self.assertTrue(one != other, (str(one), str(other)))
            self.assertIs(one == other, False)

    def test_rules_with_eight_records_together(self):
        one = Rule.together(*"abcdef")
        other = Rule.together(*"cdefgh")
        self.assertFalse(one == other)
        self.assertTrue((one & ~one) == (other & ~other))
        self.assertFalse(Rule.together(*"abcd") == Rule.together(*"efgh"))

    def test_by_chance(self):
        chance = random.Random(10)
        seen = set()
        for _ in range(400):
            one, other = grown(chance, 2, "ab"), grown(chance, 2, "abc")
            same = all(allows(one, kept) == allows(other, kept) for kept in every_set("abc"))
            self.assertIs(make(one) == make(other), same, (one, other))
            seen.add(same)
        self.assertEqual(seen, {True, False})

    def test_things_of_other_classes(self):
        rule = Rule.has("a")
        for thing in ("a", ["a"], ("a",), None, True, 1, 0, {"a": True}, Library("function a\n  pass")):
            self.assertIs(rule == thing, False)
            self.assertIs(thing == rule, False)
            self.assertIs(rule != thing, True)


class ErrorTest(unittest.TestCase):
    def test_has_takes_words_alone(self):
        for thing in NO_WORDS:
            with self.assertRaises(BadWord) as caught:
                Rule.has(thing)
            self.assertEqual(caught.exception.word, thing)

    def test_together_tells_the_first_that_is_no_word(self):
        for thing in NO_WORDS:
            for records in ((thing,), ("a", thing), ("a", thing, 7, "b"), (*SIX, "g", thing)):
                with self.assertRaises(BadWord) as caught:
                    Rule.together(*records)
                self.assertEqual(caught.exception.word, thing)
                self.assertIs(type(caught.exception.word), type(thing))

    def check_too_many(self, deed, *args):
        with self.assertRaises(TooMany) as caught:
            deed(*args)
        self.assertEqual(caught.exception.what, "records")

    def test_together_of_seven(self):
        self.check_too_many(Rule.together, *SIX, "g")
        self.check_too_many(Rule.together, "g", "g", *SIX)
        self.assertEqual(Rule.together(*SIX, "a", "f").records(), list(SIX))

    def test_each_operator_with_six_and_seven(self):
        operators = (lambda x, y: x & y, lambda x, y: x | y, lambda x, y: x >> y)
        for one, other in ((SIX[:3], SIX[2:]), (SIX, SIX), (SIX, ()), ((), SIX), (SIX[:1], SIX[1:])):
            for deed in operators:
                made = deed(Rule.together(*one), Rule.together(*other))
                self.assertEqual(made.records(), list(SIX))
        for one, other in ((SIX, ("g",)), (("g",), SIX), (SIX[:3], ("d", "e", "f", "g")), (SIX, ("a", "g"))):
            for deed in operators:
                rules = [Rule.together(*one), Rule.together(*other)]
                self.check_too_many(deed, *rules)
                self.assertEqual([rule.records() for rule in rules], [sorted(one), sorted(other)])
        self.assertEqual((~Rule.together(*SIX)).records(), list(SIX))


if __name__ == "__main__":
    unittest.main()
