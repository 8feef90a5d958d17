import random
import unittest

from keeping_search import ALL, OTHER_TERMS, random_terms, wins
from support import BureauCase

from pagebureau.base.errors import BadTerm, BadText, TooLarge
from pagebureau.base.fracs import Frac
from pagebureau.base.marks import Marks
from pagebureau.base.rows import Book
from pagebureau.keeping.rules import Rule

LONG = 10 ** 40 - 1
NO_TERMS = [
    ["full"], ["in", "ab"], ["most", "skip"], "full", "in ab", (), ("full", "skip"), ("full", ""), ("most",),
    ("least",), ("most", "halt"), ("most", "Skip"), ("least", ""), ("most", "skip", "stop"), ("in",), ("in", ""),
    ("in", "ba"), ("in", "aa"), ("in", "g"), ("in", "ag"), ("in", "A"), ("in", "a b"), ("in", "--"), ("in", " a"),
    ("in", "a", "b"), ("in", "abcdefa"), ("in", Marks("ab")), ("in", ["a"]), ("in", ("a",)), ("in", True), ("in", None),
    ("in", 0), ("In", "a"), ("out", "a"), ("first",), ("Full",), ("",), ("none",), (True,), (None,), (0,),
    (("full",),), (Frac(1),), (Marks("a"), "a"), (["in"], "a"), ("most", True), ("most", None), ("least", 1),
    True, False, None, 0, 5, Frac(1), Marks("a"), Book(), {"full": 1}, {"full"}, Rule([]), len,
]
NO_TEXTS = [
    "", " ", "full,empty", "full,  empty", "full ,empty", " full", "full ", "full, ", ", full", ",", "full,", "full, -",
    "-, full", "--", "- ", "in", "in ", "in  a", "in ba", "in aa", "in g", "in a b", "in a,b", "in ab full", "most",
    "most  skip", "most stop skip", "most halt", "least Skip", "MOST skip", "out ab", "full\n", "\nfull", "full,\nempty",
    "full, full, full, full, full, full, full", "none", "over: full", "in -a", "in a-", "(\"full\",)",
]


class TermsTest(BureauCase):
    FULL, MORE, EMPTY = (0, "a", 5), (0, "c", 7), (0, "b", None)

    def assert_winner(self, expected, terms, first, second):
        rule = Rule(terms)
        self.assertEqual(expected, rule(first, second))
        self.assertEqual(-expected, rule(second, first))
        self.assertEqual(-expected, (-rule)(first, second))

    def test_in(self):
        for first, second in ((self.FULL, self.EMPTY), (self.FULL, (7, "b", 5)), ((1, "a", None), self.EMPTY)):
            self.assert_winner(1, [("in", "a")], first, second)
            self.assert_winner(1, [("in", "ac")], first, second)
            self.assert_winner(-1, [("in", "bcdef")], first, second)
            for letters in ("-", "ab", "cdef", "abcdef"):
                self.assert_winner(0, [("in", letters)], first, second)

    def test_full_and_empty(self):
        for full in (self.FULL, (0, "b", 0), (3, "b", -LONG)):
            self.assert_winner(1, [("full",)], full, self.EMPTY)
            self.assert_winner(-1, [("empty",)], full, self.EMPTY)
            self.assert_winner(0, [("full",)], full, self.MORE)
            self.assert_winner(0, [("empty",)], full, self.MORE)
        self.assert_winner(0, [("full",)], self.EMPTY, (0, "a", None))
        self.assert_winner(0, [("empty",)], self.EMPTY, (0, "a", None))

    def test_most_and_least(self):
        for lacks in ("skip", "stop"):
            for less, more in ((5, 7), (-7, -5), (-1, 0), (0, 1), (-LONG, LONG), (LONG - 1, LONG)):
                self.assert_winner(1, [("most", lacks)], (0, "a", more), (0, "a", less))
                self.assert_winner(1, [("least", lacks)], (0, "a", less), (0, "a", more))
            for word in ("most", "least"):
                self.assert_winner(0, [(word, lacks)], (0, "a", 5), (1, "b", 5))
                self.assert_winner(0, [(word, lacks)], self.FULL, self.EMPTY)
                self.assert_winner(0, [(word, lacks)], self.EMPTY, (0, "a", None))

    def test_skip_goes_on_and_stop_ends_comparing(self):
        for word in ("most", "least"):
            for first, second in ((self.FULL, self.EMPTY), ((0, "a", None), self.EMPTY), ((0, "a", None), (0, "b", 1))):
                self.assert_winner(1, [(word, "skip"), ("in", "a")], first, second)
                self.assert_winner(0, [(word, "stop"), ("in", "a")], first, second)
                self.assert_winner(1, [("in", "a"), (word, "stop")], first, second)
                self.assert_winner(1, [(word, "skip"), ("in", "a"), (word, "stop")], first, second)
                self.assert_winner(0, [("in", "ab"), (word, "stop"), ("in", "a"), ("full",)], first, second)

    def test_equal_amounts_do_not_end_comparing(self):
        for word in ("most", "least"):
            for lacks in ("skip", "stop"):
                self.assert_winner(1, [(word, lacks), ("in", "a")], (0, "a", 5), (0, "b", 5))

    def test_the_first_term_that_decides(self):
        self.assert_winner(1, [("in", "a"), ("empty",)], self.FULL, self.EMPTY)
        self.assert_winner(-1, [("empty",), ("in", "a")], self.FULL, self.EMPTY)
        self.assert_winner(-1, [("full",), ("in", "abc"), ("most", "stop"), ("in", "a")], self.FULL, self.MORE)

    def test_no_terms(self):
        for first in (self.FULL, self.MORE, self.EMPTY):
            for second in (self.FULL, self.MORE, self.EMPTY):
                self.assert_winner(0, [], first, second)

    def test_a_row_does_not_beat_itself(self):
        source = random.Random(61)
        for _ in range(200):
            rule = Rule(random_terms(source))
            for row in (self.FULL, self.EMPTY):
                self.assertEqual(0, rule(row, row))

    def test_random_rules(self):
        source = random.Random(62)
        rows = [(0, mark, amount) for mark in ALL for amount in (None, -1, 0, 2)]
        for _ in range(1500):
            terms = random_terms(source)
            first, second = source.choice(rows), source.choice(rows)
            self.assert_winner(wins(terms, first, second), terms, first, second)


class RuleTest(BureauCase):
    def test_many_terms(self):
        for count in range(7):
            terms = OTHER_TERMS[:count]
            self.assertEqual(terms, list(Rule(terms)))
            self.assertEqual(Rule(terms), Rule(tuple(terms)))
        for count in (7, 8, 100):
            self.assert_raises(TooLarge, (count,), Rule, [("full",)] * count)

    def test_things_that_are_no_terms(self):
        for thing in NO_TERMS:
            with self.subTest(thing=thing):
                self.assert_raises(BadTerm, (0,), Rule, [thing])
                self.assert_raises(BadTerm, (2,), Rule, [("full",), ("in", "-"), thing, thing])
                self.assert_raises(BadTerm, (5,), Rule, [("full",)] * 5 + [thing])

    def test_too_many_come_before_no_terms(self):
        self.assert_raises(TooLarge, (7,), Rule, [None] * 7)
        self.assert_raises(BadTerm, (0,), Rule, [None] * 6)

    def test_all_sets_are_letters_of_terms(self):
        for letters in ("-", "a", "f", "bde", ALL):
            self.assertEqual([("in", letters)], list(Rule([("in", letters)])))
            self.assertEqual(f"in {letters}", Rule([("in", letters)]).text())

    def test_rules_keep_their_own_terms(self):
        terms = [("full",), ("in", "a")]
        rule = Rule(terms)
        terms.pop()
        list(rule).clear()
        self.assertEqual([("full",), ("in", "a")], list(rule))

    def test_the_text(self):
        self.assertEqual("-", Rule([]).text())
        self.assertEqual("in ab, full, most skip", Rule([("in", "ab"), ("full",), ("most", "skip")]).text())
        self.assertEqual("empty, least stop, in -", Rule([("empty",), ("least", "stop"), ("in", "-")]).text())

    def test_texts_are_read_back(self):
        source = random.Random(63)
        for _ in range(500):
            terms = random_terms(source)
            self.assertEqual(terms, list(Rule.read(Rule(terms).text())))
        self.assertEqual([], list(Rule.read("-")))
        self.assertEqual([("in", "-")], list(Rule.read("in -")))
        self.assertEqual([("full",)] * 6, list(Rule.read(", ".join(["full"] * 6))))

    def test_texts_that_no_rule_has(self):
        for text in NO_TEXTS:
            with self.subTest(text=text):
                self.assert_raises(BadText, (0,), Rule.read, text)

    def test_random_texts(self):
        source = random.Random(64)
        words = ["in", "full", "most", "skip", "stop", "a", "ab", "-", ",", ", ", " ", " ", "empty"]
        good = 0
        for _ in range(4000):
            text = "".join(source.choice(words) for _ in range(source.randint(0, 6)))
            try:
                rule = Rule.read(text)
            except BadText as error:
                self.assertEqual(0, error.at)
                continue
            good += 1
            self.assertEqual(text, rule.text())
        self.assertGreater(good, 50)

    def test_ranked(self):
        for text, expected in [
            ("-", True), ("in ab", True), ("full", True), ("empty, most stop", True), ("full, least skip", True),
            ("most skip", False), ("least stop, full", False), ("in a, in b, most stop", False),
            ("in a, full, in b, most stop, least skip", True), ("most skip, full, most skip", False),
            ("full, most stop, empty, least skip", True), ("most stop, most stop, empty", False),
        ]:
            self.assertIs(expected, Rule.read(text).ranked, text)

    def test_straight(self):
        for text, expected in [
            ("-", True), ("in ab", True), ("full, empty, in -", True), ("most skip", False), ("full, least stop", False),
            ("full, in a, in b, in c, in d, most stop", False),
        ]:
            self.assertIs(expected, Rule.read(text).straight, text)

    def test_plus(self):
        source = random.Random(65)
        for _ in range(300):
            first, second = random_terms(source), random_terms(source)
            a, b = Rule(first), Rule(second)
            if len(first + second) > 6:
                self.assert_raises(TooLarge, (len(first + second),), lambda: a + b)
            else:
                self.assertIs(Rule, type(a + b))
                self.assertEqual(first + second, list(a + b))
            self.assertEqual((first, second), (list(a), list(b)))

    def test_minus(self):
        rule = Rule.read("in bd, full, most skip, least stop, empty, in -")
        self.assertIs(Rule, type(-rule))
        self.assertEqual("in acef, empty, least skip, most stop, full, in abcdef", (-rule).text())
        self.assertEqual(rule, -(-rule))
        self.assertEqual("in bd, full, most skip, least stop, empty, in -", rule.text())
        self.assertEqual(Rule([]), -Rule([]))

    def test_equal_rules(self):
        self.assertIs(True, Rule.read("full, in a") == Rule([("full",), ("in", "a")]))
        self.assertIs(False, Rule.read("full, in a") == Rule.read("in a, full"))
        self.assertIs(True, Rule.read("full") != Rule.read("full, full"))
        self.assert_unequal_to_others(Rule([]), ([], (), "-", None, 0, False, Marks()))
        self.assert_unequal_to_others(Rule([("full",)]), ([("full",)], (("full",),), "full", True))


if __name__ == "__main__":
    unittest.main()
