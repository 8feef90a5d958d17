import unittest
from itertools import combinations, permutations

from support import BureauCase

from pagebureau.base.errors import BadMarks, BadText
from pagebureau.base.marks import Marks, is_marks_text

ALL = "abcdef"
SETS = ["".join(marks) for count in range(7) for marks in combinations(ALL, count)]


class MarksTest(BureauCase):
    def test_letters_stand_in_any_order_and_twice(self):
        for letters in permutations("ace"):
            self.assertEqual("ace", Marks("".join(letters)).letters)
        self.assertEqual("abf", Marks("fbabfaaf").letters)
        self.assertEqual(ALL, Marks("fedcba" * 30).letters)

    def test_no_letters(self):
        for empty in (Marks(), Marks("")):
            self.assertEqual("", empty.letters)
            self.assertEqual("-", empty.text())
            self.assertEqual(0, len(empty))
            self.assertIs(False, bool(empty))
            self.assertEqual([], list(empty))

    def test_all(self):
        self.assertEqual(ALL, Marks.ALL)
        self.assertEqual(ALL, Marks("b").ALL)

    def test_a_character_that_is_no_mark(self):
        for letters in ("g", "A", "-", " ", "ab ", "abg", "\n", "a\n", "a-", "0", "abcdefF"):
            with self.subTest(letters=letters):
                self.assert_raises(BadMarks, (letters,), Marks, letters)

    def test_texts_are_read_back(self):
        self.assertEqual(64, len(SETS))
        for letters in SETS:
            with self.subTest(letters=letters):
                self.assertEqual(letters or "-", Marks(letters).text())
                self.assertEqual(letters, Marks.read(letters or "-").letters)

    def test_texts_of_no_set(self):
        texts = ["", "ba", "aa", "acb", "-a", "a-", "--", "g", "A", " a", "a ", "a b", "-\n", "\n"]
        for text in texts + ["a\n", "abcdefa", "fa", "abdc", "a,b", "+"]:
            with self.subTest(text=text):
                self.assert_raises(BadText, (0,), Marks.read, text)
                self.assertIs(False, is_marks_text(text))

    def test_which_things_are_texts_of_sets(self):
        for letters in SETS:
            self.assertIs(True, is_marks_text(letters or "-"))
        for thing in (None, True, 0, Marks("a"), Marks(), ["a"], ("a",), [], b"a"):
            self.assertIs(False, is_marks_text(thing))

    def test_operators_of_two_sets(self):
        for first in SETS:
            for second in SETS:
                a, b, one, two = Marks(first), Marks(second), set(first), set(second)
                self.assertEqual("".join(sorted(one & two)), (a & b).letters)
                self.assertEqual("".join(sorted(one | two)), (a | b).letters)
                self.assertEqual("".join(sorted(one - two)), (a - b).letters)
                self.assertEqual("".join(sorted(one ^ two)), (a ^ b).letters)
                self.assertIs(one <= two, a <= b)
                self.assertIs(one == two, a == b)
                self.assertIs(one != two, a != b)
                self.assertEqual((first, second), (a.letters, b.letters))

    def test_all_others(self):
        for letters in SETS:
            marks = Marks(letters)
            self.assertEqual("".join(sorted(set(ALL) - set(letters))), (~marks).letters)
            self.assertEqual(letters, marks.letters)

    def test_operators_give_marks(self):
        a, b = Marks("ab"), Marks("bc")
        for result in (a & b, a | b, a - b, a ^ b, ~a, Marks.read("ab")):
            self.assertIs(Marks, type(result))

    def test_length_truth_and_iteration(self):
        for letters in SETS:
            marks = Marks(letters[::-1])
            self.assertEqual(len(letters), len(marks))
            self.assertIs(letters != "", bool(marks))
            self.assertEqual(list(letters), list(marks))

    def test_which_strings_are_in_a_set(self):
        marks = Marks("abf")
        for mark in "abf":
            self.assertIs(True, mark in marks)
        for other in ("c", "d", "e", "g", "A", "", "ab", "abf", "bf", "-", " ", "a ", "\n", "aa"):
            with self.subTest(other=other):
                self.assertIs(False, other in marks)
        self.assertIs(False, "" in Marks())
        self.assertIs(False, "-" in Marks())
        self.assertIs(False, "abcdef" in Marks("abcdef"))

    def test_beside_other_things(self):
        others = ("ab", "", None, True, 0, ["a", "b"], {"a", "b"}, ("a", "b"))
        self.assert_unequal_to_others(Marks("ab"), others)
        self.assert_unequal_to_others(Marks(), others)
        with self.assertRaises(TypeError):
            Marks("a") <= "ab"


if __name__ == "__main__":
    unittest.main()
