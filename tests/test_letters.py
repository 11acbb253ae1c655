"""[2]: letters, texts, kinds, lots of kinds."""

import unittest
from itertools import permutations

from anyscribe.errors import BadKinds, BadLetters, BadText
from anyscribe.readers import is_reader, verdict
from anyscribe.texts import copies, deeds

TWELVE = tuple((left, right) for left in ("", "a", "b", "ab") for right in ("", "a", "b", "c") if left != right)[:12]


class Letters(unittest.TestCase):
    def test_right_letters(self):
        for letters in ("a", "z", "az", "abc", "abcd", "wxyz", "m"):
            self.assertEqual(deeds(letters, (), ""), (), letters)
            self.assertTrue(is_reader((letters, ((0,) * len(letters),), (True,))), letters)

    def test_wrong_letters(self):
        wrong = ("", "abcde", "ba", "acb", "aa", "abb", "A", "Ab", "aB", "1", "a1", "a ", " a", "_", "`", "{", "a{",
                 "\u00e4", "\u0430", "\uff41", ("a", "b"), ["a", "b"], ("a",), {"a": "b"}, None, 1, True)
        for letters in wrong:
            with self.subTest(letters=letters):
                self.assertRaises(BadLetters, deeds, letters, (), "")
                width = len(letters) if isinstance(letters, (str, tuple, list, dict)) else 1
                self.assertFalse(is_reader((letters, ((0,) * width,), (True,))))


class Texts(unittest.TestCase):
    def test_lengths(self):
        self.assertEqual(deeds("ab", (("b", ""),), "a" * 39 + "b"), ((39, "b", ""),))
        self.assertRaises(BadText, deeds, "ab", (("b", ""),), "a" * 40 + "b")
        self.assertRaises(BadText, copies, "ab", (("b", ""),), "a" * 41)
        self.assertEqual(verdict(("a", ((0,),), (True,)), "a" * 40), True)
        self.assertRaises(BadText, verdict, ("a", ((0,),), (True,)), "a" * 41)
        self.assertRaises(BadText, verdict, ("a", ((0,),), (True,)), "a" * 100000)

    def test_letters_of_texts(self):
        for text in ("abc", "c", "A", "a b", " ", "a\n", "1", ("a",), ["a", "b"], None, 0, True):
            with self.subTest(text=text):
                self.assertRaises(BadText, deeds, "ab", (), text)
        self.assertEqual(deeds("az", (), "zaz"), ())
        self.assertRaises(BadText, deeds, "az", (), "ab")


class Kinds(unittest.TestCase):
    def assert_bad(self, kinds):
        with self.subTest(kinds=kinds):
            self.assertRaises(BadKinds, deeds, "abc", kinds, "")
            self.assertRaises(BadKinds, copies, "abc", kinds, "")

    def test_sides(self):
        self.assertEqual(deeds("abc", (("abc", "a"),), "aabc"), ((1, "abc", "a"),))
        self.assertEqual(deeds("abc", (("abc", ""),), "aabc"), ((1, "abc", ""),))
        self.assert_bad((("abca", "a"),))
        self.assert_bad((("aaaa", ""),))
        self.assert_bad((("a", "bc"),))
        self.assert_bad((("", "aa"),))
        self.assert_bad((("a", "a"),))
        self.assert_bad((("", ""),))

    def test_letters_of_sides(self):
        for kind in (("d", ""), ("a", "d"), ("A", ""), ("a ", ""), ("_", "a"), ("a", "_"), ("ad", "a")):
            self.assert_bad((kind,))

    def test_forms(self):
        for kind in ((), ("a",), ("a", "", ""), ["a", ""], "ab", "a", None, 1, True, {"a": ""}, {}, (("a",), ""),
                     ("a", None), (None, "a"), ("a", 0), (True, "a"), ({}, "a"), ("a", []), (("a", ""),)):
            self.assert_bad((kind,))
            self.assert_bad((("a", ""), kind))
        for kinds in ([("a", "")], {("a", ""): True}, None, "ab", "", 0, True, [], {}, ("a", "")):
            self.assert_bad(kinds)

    def test_many(self):
        self.assertEqual(len(TWELVE), 12)
        self.assertEqual(len(deeds("abc", TWELVE, "")), 3)
        self.assert_bad(TWELVE + (("c", ""),))
        self.assert_bad(TWELVE * 1000)

    def test_none(self):
        self.assertEqual(deeds("abc", (), "abc"), ())
        self.assertEqual(copies("abc", (), "abc"), ())

    def test_twice(self):
        self.assert_bad((("a", ""), ("a", "")))
        self.assert_bad((("a", ""), ("b", ""), ("a", "b"), ("a", "")))
        self.assertEqual(len(deeds("abc", (("a", ""), ("a", "b"), ("b", "a")), "a")), 2)

    def test_any_order(self):
        kinds = (("a", ""), ("", "a"), ("ab", "b"), ("a", "c"))
        right = deeds("abc", kinds, "cabab")
        for order in permutations(kinds):
            self.assertEqual(deeds("abc", order, "cabab"), right)
            self.assertEqual(copies("abc", order, "cabab"), copies("abc", kinds, "cabab"))


if __name__ == "__main__":
    unittest.main()
