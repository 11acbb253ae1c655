"""[3]: deeds, done, copies."""

import random
import unittest

from anyscribe.errors import BadDeed, TooLong
from anyscribe.texts import copies, deeds, done
from tests.support import ANY, ascending, texts_of

KINDS = (("a", ""), ("a", "b"))


def plain_deeds(kinds, text):
    """All deeds, by the definition alone."""
    found = []
    for left, right in kinds:
        for place in range(len(text) + 1):
            ahead, behind = text[:place], text[place + len(left):]
            if ahead + left + behind == text:
                found.append((place, left, right))
    return tuple(sorted(found, key=lambda deed: (deed[0], len(deed[1]), deed[1], len(deed[2]), deed[2])))


def plain_copy(text, deed):
    place, left, right = deed
    return text[:place] + right + text[place + len(left):]


class Deeds(unittest.TestCase):
    def test_example(self):
        self.assertEqual(deeds("ab", KINDS, "aba"), ((0, "a", ""), (0, "a", "b"), (2, "a", ""), (2, "a", "b")))
        self.assertEqual(done("ab", KINDS, "aba", (2, "a", "b")), "abb")
        self.assertEqual(copies("ab", KINDS, "aba"), ("ab", "ba", "abb", "bba"))

    def test_empty_l_stands_everywhere(self):
        for text in ("", "a", "ab", "abba"):
            found = deeds("ab", (("", "b"),), text)
            self.assertEqual(found, tuple((place, "", "b") for place in range(len(text) + 1)))
        self.assertEqual(copies("ab", (("", "a"), ("", "b")), ""), ("a", "b"))
        self.assertEqual(done("ab", (("", "b"),), "", (0, "", "b")), "b")
        self.assertEqual(done("ab", (("", "b"),), "aa", (0, "", "b")), "baa")
        self.assertEqual(done("ab", (("", "b"),), "aa", (1, "", "b")), "aba")
        self.assertEqual(done("ab", (("", "b"),), "aa", (2, "", "b")), "aab")

    def test_order(self):
        kinds = (("b", ""), ("ab", ""), ("a", "b"), ("", "b"), ("a", ""), ("aba", "b"), ("", "a"), ("ab", "a"))
        self.assertEqual(deeds("ab", kinds, "aba"), (
            (0, "", "a"), (0, "", "b"), (0, "a", ""), (0, "a", "b"), (0, "ab", ""), (0, "ab", "a"), (0, "aba", "b"),
            (1, "", "a"), (1, "", "b"), (1, "b", ""),
            (2, "", "a"), (2, "", "b"), (2, "a", ""), (2, "a", "b"),
            (3, "", "a"), (3, "", "b")))
        # An l goes ahead of another by its length first, not as Python orders them; so does an r.
        self.assertEqual(deeds("ab", (("aa", "b"), ("b", "a"), ("aa", "")), "aab"),
                         ((0, "aa", ""), (0, "aa", "b"), (2, "b", "a")))
        self.assertEqual(deeds("abcd", (("a", "d"), ("a", "b"), ("a", ""), ("a", "c")), "a"),
                         ((0, "a", ""), (0, "a", "b"), (0, "a", "c"), (0, "a", "d")))

    def test_overlapping(self):
        self.assertEqual(deeds("a", (("aa", "a"),), "aaaa"), ((0, "aa", "a"), (1, "aa", "a"), (2, "aa", "a")))
        self.assertEqual(copies("a", (("aa", "a"),), "aaaa"), ("aaa",))
        self.assertEqual(deeds("ab", (("aba", ""),), "ababa"), ((0, "aba", ""), (2, "aba", "")))

    def test_none(self):
        self.assertEqual(deeds("ab", (("bb", ""),), "ab"), ())
        self.assertEqual(copies("ab", (("bb", ""),), "ab"), ())
        self.assertEqual(deeds("ab", (("aaa", ""),), "aa"), ())

    def test_one_copy_of_several_deeds(self):
        self.assertEqual(copies("ab", (("a", ""),), "aaab"), ("aab",))
        self.assertEqual(copies("ab", (("", "a"), ("b", "")), "aab"), ("aa", "aaab", "aaba"))
        self.assertEqual(copies("ab", (("ab", "a"), ("b", "")), "ab"), ("a",))

    def test_against_the_definition(self):
        chance = random.Random(3)
        sides = [left for left in texts_of("ab", 3)]
        kinds = [(left, right) for left in sides for right in ("", "a", "b") if left != right]
        for text in texts_of("ab", 6):
            lot = tuple(chance.sample(kinds, chance.randint(0, 12)))
            right = plain_deeds(lot, text)
            self.assertEqual(deeds("ab", lot, text), right)
            for deed in right:
                self.assertEqual(done("ab", lot, text, deed), plain_copy(text, deed))
            self.assertEqual(copies("ab", lot, text), ascending({plain_copy(text, deed) for deed in right}))


class BadDeeds(unittest.TestCase):
    def test_any_value(self):
        for value in ANY:
            if not (isinstance(value, tuple) and value == (0, "a", "")):
                self.assertRaises(BadDeed, done, "ab", KINDS, "aba", value)

    def test_deeds_of_other_texts_and_kinds(self):
        for deed in ((1, "a", ""), (3, "a", ""), (-1, "a", ""), (-3, "a", ""), (10 ** 30, "a", ""), (0, "b", ""),
                     (0, "a", "a"), (0, "", "b"), (0, "ab", ""), (1, "b", "a"), (0, "aa", "")):
            self.assertRaises(BadDeed, done, "ab", KINDS, "aba", deed)

    def test_no_bool_is_a_place(self):
        self.assertEqual(done("ab", KINDS, "aa", (1, "a", "")), "a")
        self.assertRaises(BadDeed, done, "ab", KINDS, "aa", (True, "a", ""))
        self.assertRaises(BadDeed, done, "ab", KINDS, "aa", (False, "a", ""))

    def test_forms(self):
        for deed in ([0, "a", ""], (0, "a"), (0, "a", "", ""), (0, ["a"], ""), (0, "a", None), ("0", "a", ""),
                     (None, "a", ""), ({}, "a", ""), (0, {}, []), ((0, "a", ""),), "0a", {0: "a"}):
            self.assertRaises(BadDeed, done, "ab", KINDS, "aba", deed)

    def test_no_kinds(self):
        self.assertRaises(BadDeed, done, "ab", (), "aba", (0, "a", ""))


class LongTexts(unittest.TestCase):
    def test_forty_letters_and_an_empty_l(self):
        text = "a" * 40
        kinds = (("", "b"), ("a", "b"), ("a", ""))
        self.assertEqual(len(deeds("ab", kinds, text)), 41 + 80)
        with self.assertRaises(TooLong) as caught:
            done("ab", kinds, text, (40, "", "b"))
        self.assertEqual(caught.exception.most, 40)
        with self.assertRaises(TooLong) as caught:
            copies("ab", kinds, text)
        self.assertEqual(caught.exception.most, 40)

    def test_forty_letters_and_no_longer_copy(self):
        text = "a" * 40
        kinds = (("", "b"), ("a", "b"), ("a", ""))
        self.assertEqual(done("ab", kinds, text, (39, "a", "b")), "a" * 39 + "b")
        self.assertEqual(done("ab", kinds, text, (39, "a", "")), "a" * 39)
        self.assertEqual(copies("ab", (("a", ""), ("aab", "b")), text), ("a" * 39,))
        self.assertEqual(len(copies("ab", (("a", "b"),), text)), 40)

    def test_thirty_nine_letters(self):
        self.assertEqual(copies("a", (("", "a"),), "a" * 39), ("a" * 40,))
        self.assertEqual(done("a", (("", "a"),), "a" * 39, (39, "", "a")), "a" * 40)


if __name__ == "__main__":
    unittest.main()
