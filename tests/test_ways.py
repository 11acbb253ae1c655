"""[12]: fewest, way, origin, leads."""

import random
import unittest

from anyscribe.books import reader_of
from anyscribe.copying import comes, comes_by
from anyscribe.errors import BadKinds, BadLetters, BadReader, BadText, NoWay, TooLong, TooMany
from anyscribe.readers import least
from anyscribe.ways import fewest, leads, origin, way
from tests.scribes import ancestors, led, plain_deeds, random_kinds
from tests.support import ANY, line_of, random_readers, renumbered, round_of, said, texts_of

NO_TEXT = ("ab", ((0, 0),), (False,))
EVERY_TEXT = ("ab", ((0, 0),), (True,))
KINDS = (("ab", "b"), ("b", ""))
# An a comes of nothing, a b of three a, and so on: what is made needs longer and longer texts on the way.
BUILDING = (("", "a"), ("aaa", "b"), ("bbb", "c"), ("ccc", "d"))


class Ways(unittest.TestCase):
    def assert_way(self, letters, kinds, text, other, many):
        """So many deeds are told as the fewest, and a way of so many is told that leads there."""
        self.assertEqual(fewest(letters, kinds, text, other), many, (kinds, text, other))
        self.assertIs(type(fewest(letters, kinds, text, other)), int)
        row = way(letters, kinds, text, other)
        self.assertIsInstance(row, tuple)
        self.assertEqual(len(row), many)
        behind, lengths = led(kinds, text, row)
        self.assertEqual(behind, other)
        self.assertIs(leads(letters, kinds, text, row, other), True)
        return max(lengths)

    def assert_no_way(self, letters, kinds, text, other):
        self.assertIsNone(fewest(letters, kinds, text, other), (kinds, text, other))
        self.assertRaises(NoWay, way, letters, kinds, text, other)

    def assert_too_long(self, function, *values):
        with self.assertRaises(TooLong) as caught:
            function(*values)
        self.assertEqual(caught.exception.most, 8)


class Fewest(Ways):
    def test_example(self):
        self.assertEqual(fewest("ab", KINDS, "aab", ""), 3)
        self.assertIsNone(fewest("ab", KINDS, "b", "a"))
        self.assertIs(leads("ab", KINDS, "aab", way("ab", KINDS, "aab", ""), ""), True)

    def test_one_text_twice(self):
        for text in ("", "a", "abab", "aaaaaaaa"):
            for kinds in ((), KINDS, (("", "a"), ("a", "")), BUILDING):
                self.assert_way("abcd", kinds, text, text, 0)
                self.assertEqual(way("abcd", kinds, text, text), ())

    def test_no_way(self):
        self.assert_no_way("ab", (), "a", "b")
        self.assert_no_way("ab", (), "", "a")
        self.assert_no_way("ab", KINDS, "a", "")
        self.assert_no_way("ab", (("a", ""), ("", "b")), "b", "")
        self.assert_no_way("ab", (("", "a"),), "bb", "aba")
        self.assert_no_way("ab", (("aa", "b"),), "aaa", "bb")
        self.assert_no_way("ab", (("bab", "a"),), "babab", "")

    def test_one_kind(self):
        self.assert_way("ab", (("a", "b"),), "aaaaaaaa", "bbbbbbbb", 8)
        self.assert_way("ab", (("", "b"),), "", "bbbbbbbb", 8)
        self.assert_way("ab", (("", "b"),), "aaaa", "babababa", 4)
        self.assert_way("ab", (("a", ""),), "abaabbaa", "bbb", 5)
        self.assert_way("a", (("aaa", "a"),), "aaaaaaa", "a", 3)
        self.assert_way("ab", (("ab", ""),), "aaaabbbb", "", 4)
        self.assert_way("ab", (("aab", "b"),), "aaaaaaab", "ab", 3)

    def test_the_shorter_of_several_ways(self):
        self.assert_way("ab", (("a", ""), ("aa", "")), "aaaaa", "", 3)
        self.assert_way("ab", (("a", ""), ("aa", ""), ("aaa", "")), "aaaaaaaa", "", 3)
        self.assert_way("ab", (("aaa", "b"), ("a", ""), ("ab", "")), "aaaaaaaa", "b", 4)
        self.assert_way("abc", (("a", "b"), ("b", "c"), ("a", "c")), "aaaa", "cccc", 4)
        self.assert_way("abc", (("a", "b"), ("b", "c")), "aaaa", "cccc", 8)

    def test_over_longer_texts(self):
        longest = self.assert_way("ab", (("", "b"), ("abb", "")), "aaaaaaaa", "", 24)
        self.assertGreater(longest, 8)
        self.assert_way("ab", (("", "b"), ("abb", ""), ("ab", "")), "aaaaaaaa", "", 16)
        longest = self.assert_way("abcd", BUILDING, "", "d", 40)
        self.assertGreater(longest, 2)
        longest = self.assert_way("abcd", BUILDING, "", "dddddddd", 320)
        self.assertGreater(longest, 8)
        self.assert_way("abcd", BUILDING, "cc", "d", 14)
        self.assert_way("abcd", BUILDING + (("dda", ""),), "bbbbabab", "dddddddd", 294)

    def test_over_texts_of_more_than_forty_letters(self):
        # All of the a must be there before there is a b: the way is over one letter after another, however it goes.
        kinds = (("", "a"), ("aaa", "b"), ("bbb", "c"), ("ccc", "d"), ("ddd", "a"))
        row = []
        text = ""
        for _ in range(81):
            row.append((0, "", "a"))
        for letter, behind, many in (("a", "b", 27), ("b", "c", 9), ("c", "d", 3)):
            for place in range(many):
                row.append((place, letter * 3, behind))
        behind, lengths = led(kinds, text, row)
        self.assertEqual((behind, max(lengths)), ("ddd", 81))
        self.assertIs(leads("abcd", kinds, text, tuple(row), "ddd"), True)
        self.assertIs(leads("abcd", kinds, text, tuple(row), "dd"), False)
        self.assert_way("abcd", kinds, "", "ddd", 120)

    def test_over_shorter_texts(self):
        self.assert_way("ab", (("aaa", ""), ("", "b")), "aaa", "bbb", 4)
        self.assert_way("abc", (("aaa", "b"), ("b", ""), ("", "c")), "aaa", "ccc", 5)
        row = ((0, "aaa", "b"), (0, "b", ""), (0, "", "c"), (1, "", "c"), (0, "", "c"))
        self.assertIs(leads("abc", (("aaa", "b"), ("b", ""), ("", "c")), "aaa", row, "ccc"), True)

    def test_what_is_slipped_in_helps(self):
        self.assert_way("ab", (("", "a"), ("aab", "")), "b", "", 3)
        self.assert_way("ab", (("", "a"), ("bab", "b")), "bb", "b", 2)
        self.assert_way("ab", (("", "a"), ("bab", "b"), ("ab", "")), "bbb", "", 6)

    def test_against_deeds_taken_back(self):
        chance = random.Random(60)
        for _ in range(250):
            letters = chance.choice(("a", "ab", "ab", "abc"))
            kinds = random_kinds(chance, letters)
            other = "".join(chance.choices(letters, k=chance.randint(0, 4)))
            known = ancestors(kinds, other, 3 if len(other) < 3 else 2)
            for text in texts_of(letters, 4 if letters != "abc" else 3):
                many = fewest(letters, kinds, text, other)
                if text in known:
                    self.assertEqual(many, known[text])
                    self.assert_way(letters, kinds, text, other, many)
                elif many is None:
                    self.assertRaises(NoWay, way, letters, kinds, text, other)
                else:
                    self.assertGreater(many, max(known.values()))
                    self.assert_way(letters, kinds, text, other, many)

    def test_tells_the_same_as_what_comes(self):
        chance = random.Random(61)
        for _ in range(60):
            letters = chance.choice(("a", "ab", "abc"))
            kinds = random_kinds(chance, letters)
            text = "".join(chance.choices(letters, k=chance.randint(0, 8)))
            reader = reader_of(letters, text or "_")
            for other in texts_of(letters, 3):
                many = fewest(letters, kinds, text, other)
                self.assertIs(many is not None, said(comes(reader, kinds), other))
                if many is not None and many <= 4:
                    self.assertTrue(said(comes_by(reader, kinds, many), other))
                    self.assertFalse(many > 0 and said(comes_by(reader, kinds, many - 1), other))

    def test_eight_and_nine_letters(self):
        self.assert_way("ab", (("a", "b"), ("b", "a")), "aaaaaaaa", "bbbbbbbb", 8)
        for function in (fewest, way):
            self.assert_too_long(function, "ab", KINDS, "a" * 9, "")
            self.assert_too_long(function, "ab", KINDS, "", "a" * 9)
            self.assert_too_long(function, "ab", KINDS, "a" * 9, "a" * 9)
            self.assert_too_long(function, "ab", (), "a" * 40, "b" * 40)
            self.assertRaises(BadText, function, "ab", KINDS, "a" * 9, "c")
            self.assertRaises(BadText, function, "ab", KINDS, "c", "a" * 9)
            self.assertRaises(BadText, function, "ab", KINDS, "a" * 41, "a" * 9)
            self.assertRaises(BadText, function, "ab", KINDS, "a" * 9, "a" * 41)
            self.assertRaises(BadKinds, function, "ab", (("c", ""),), "a" * 9, "c")
            self.assertRaises(BadLetters, function, "ba", (("c", ""),), "a" * 9, "c")

    def test_wrong_values(self):
        for function in (fewest, way):
            for value in ANY:
                if value not in ("a", "ab"):
                    self.assertRaises(BadLetters, function, value, value, value, value)
                if value not in ((), (("a", ""),)):
                    self.assertRaises(BadKinds, function, "ab", value, value, value)
                if not (isinstance(value, str) and set(value) <= set("ab") and len(value) <= 40):
                    self.assertRaises(BadText, function, "ab", KINDS, value, value)
                    self.assertRaises(BadText, function, "ab", KINDS, "", value)


class Origin(Ways):
    def assert_origin(self, reader, kinds, text, many=None):
        """A pair is told of a text of the reader and of a row that leads from it to the text."""
        found = origin(reader, kinds, text)
        self.assertIsInstance(found, tuple)
        first, row = found
        self.assertIsInstance(row, tuple)
        self.assertTrue(said(reader, first))
        self.assertEqual(led(kinds, first, row)[0], text)
        if many is not None:
            self.assertEqual(len(row), many)
        if len(first) <= 8:
            self.assertEqual(fewest(reader[0], kinds, first, text), len(row))
        return first, row

    def test_example(self):
        found = self.assert_origin(reader_of("ab", "aab"), KINDS, "b", 2)
        self.assertEqual(found[0], "aab")
        self.assert_origin(reader_of("ab", "a* b"), KINDS, "", 1)

    def test_own_texts(self):
        for text in ("", "a", "abba", "bbbbbbbb"):
            self.assertEqual(origin(EVERY_TEXT, KINDS, text), (text, ()))
            self.assertEqual(origin(reader_of("ab", text or "_"), KINDS, text), (text, ()))
            self.assertEqual(origin(EVERY_TEXT, (), text), (text, ()))

    def test_nearest_text(self):
        self.assertEqual(self.assert_origin(reader_of("ab", "aaaa | bb"), (("b", ""), ("a", "b")), "b", 1)[0], "bb")
        self.assert_origin(reader_of("ab", "a | aaaaaa"), (("", "b"), ("aa", "b")), "bbb", 3)
        self.assert_origin(reader_of("ab", "(aaa)*"), (("a", ""),), "aaaa", 2)
        self.assert_origin(reader_of("ab", "(aaa)*"), (("a", ""),), "", 0)

    def test_long_first_texts(self):
        first, row = self.assert_origin(line_of("a", 200, (198,)), (("aa", "a"),), "a", 197)
        self.assertEqual(first, "a" * 198)
        first, row = self.assert_origin(line_of("a", 200, (198,)), (("aa", "a"), ("aaa", "")), "", 66)
        self.assertEqual(first, "a" * 198)
        first, row = self.assert_origin(round_of("a", 150, (149,)), (("a", ""),), "aa", 147)
        self.assertEqual(first, "a" * 149)
        first, row = self.assert_origin(line_of("a", 100, (98,)), (("aa", "a"), ("", "a")), "aaaaaaaa", 90)
        self.assertEqual(first, "a" * 98)

    def test_slips(self):
        self.assertEqual(self.assert_origin(reader_of("ab", "_"), (("", "a"),), "aaa", 3)[0], "")
        self.assertEqual(self.assert_origin(reader_of("abcd", "_ | a"), BUILDING, "d", 39)[0], "a")

    def test_no_way(self):
        for text in ("", "a", "abababab"):
            self.assertRaises(NoWay, origin, NO_TEXT, KINDS, text)
            self.assertRaises(NoWay, origin, NO_TEXT, (("", "a"), ("", "b"), ("a", "")), text)
        self.assertRaises(NoWay, origin, reader_of("ab", "a*"), KINDS, "b")
        self.assertRaises(NoWay, origin, reader_of("ab", "a+"), (("aa", "a"), ("", "b")), "b")
        self.assertRaises(NoWay, origin, ("ab", ((0, 0), (0, 1)), (False, True)), (("", "a"),), "a")
        self.assertRaises(NoWay, origin, ("ab", ((1, 1), (1, 1)), (True, False)), (), "a")

    def test_against_deeds_taken_back(self):
        chance = random.Random(62)
        for reader in random_readers(63, 150, ("a", "ab", "ab", "abc"), 4):
            kinds = random_kinds(chance, reader[0])
            for text in texts_of(reader[0], 2):
                known = ancestors(kinds, text, 2)
                right = min((many for first, many in known.items() if said(reader, first)), default=None)
                if right is not None:
                    self.assert_origin(reader, kinds, text, right)
                elif said(comes(reader, kinds), text):
                    self.assertGreater(len(self.assert_origin(reader, kinds, text)[1]), 2)
                else:
                    self.assertRaises(NoWay, origin, reader, kinds, text)

    def test_no_row_is_shorter(self):
        chance = random.Random(64)
        for reader in random_readers(65, 60, ("a", "ab"), 3):
            kinds = random_kinds(chance, reader[0], 2)
            for text in texts_of(reader[0], 3):
                if said(comes(reader, kinds), text):
                    row = self.assert_origin(reader, kinds, text)[1]
                    if 0 < len(row) <= 4:
                        try:
                            self.assertFalse(said(comes_by(reader, kinds, len(row) - 1), text))
                        except TooMany:
                            continue

    def test_forms_of_one_reader(self):
        reader = ("ab", ((1, 3), (2, 1), (3, 3), (3, 3), (1, 4)), (False, False, True, False, True))
        for order in ((0, 1, 2, 3, 4), (0, 4, 3, 2, 1), (0, 2, 4, 1, 3)):
            self.assert_origin(renumbered(reader, order), (("b", "a"), ("aa", "b")), "b", 1)
        self.assert_origin(least(reader), (("b", "a"), ("aa", "b")), "b", 1)

    def test_wrong_values(self):
        for value in ANY:
            if value != EVERY_TEXT:
                self.assertRaises(BadReader, origin, value, value, value)
            if value not in ((), (("a", ""),)):
                self.assertRaises(BadKinds, origin, EVERY_TEXT, value, value)
            if not (isinstance(value, str) and set(value) <= set("ab") and len(value) <= 40):
                self.assertRaises(BadText, origin, EVERY_TEXT, KINDS, value)
        self.assert_too_long(origin, EVERY_TEXT, KINDS, "a" * 9)
        self.assert_too_long(origin, NO_TEXT, KINDS, "a" * 40)
        self.assertRaises(BadText, origin, NO_TEXT, KINDS, "a" * 8 + "c")
        self.assertRaises(BadText, origin, NO_TEXT, KINDS, "a" * 41)
        self.assertRaises(NoWay, origin, NO_TEXT, KINDS, "a" * 8)


class Leads(Ways):
    ROW = ((0, "ab", "b"), (1, "b", ""))

    def assert_leads(self, right, text, row, other, kinds=KINDS):
        self.assertIs(leads("ab", kinds, text, row, other), right, (text, row, other))

    def test_ordinary(self):
        self.assert_leads(True, "abb", self.ROW, "b")
        self.assert_leads(False, "abb", self.ROW, "")
        self.assert_leads(False, "abb", self.ROW, "bb")
        self.assert_leads(False, "abb", self.ROW[:1], "b")
        self.assert_leads(True, "abb", self.ROW[:1], "bb")
        self.assert_leads(False, "ab", self.ROW, "b")

    def test_wrong_order(self):
        self.assert_leads(True, "abb", ((2, "b", ""), (1, "b", "")), "a")
        self.assert_leads(False, "abb", ((1, "b", ""), (2, "b", "")), "a")
        self.assert_leads(True, "abb", ((1, "b", ""), (1, "b", "")), "a")
        self.assert_leads(False, "aab", ((0, "ab", "b"), (1, "ab", "b")), "b")
        self.assert_leads(True, "aab", ((1, "ab", "b"), (0, "ab", "b")), "b")

    def test_empty_row(self):
        for kinds in ((), KINDS):
            self.assert_leads(True, "", (), "", kinds)
            self.assert_leads(True, "ab" * 20, (), "ab" * 20, kinds)
            self.assert_leads(False, "ab", (), "ba", kinds)
            self.assert_leads(False, "ab", (), "", kinds)

    def test_any_value(self):
        for value in ANY:
            right = isinstance(value, tuple) and value == ()
            self.assert_leads(right, "a", value, "a")
            self.assert_leads(False, "a", value, "b")
            self.assert_leads(False, "b", (value,), "")
            self.assert_leads(False, "b", ((0, "b", ""), value), "")
            right = isinstance(value, int) and not isinstance(value, bool) and value == 0
            self.assert_leads(right, "b", ((value, "b", ""),), "")
            self.assert_leads(isinstance(value, str) and value == "", "b", ((0, "b", value),), "")
            self.assert_leads(False, "b", ((0, value, ""),), "")

    def test_lists(self):
        self.assert_leads(False, "abb", list(self.ROW), "b")
        self.assert_leads(False, "abb", (list(self.ROW[0]), self.ROW[1]), "b")
        self.assert_leads(False, "abb", {0: self.ROW}, "b")
        self.assert_leads(False, "abb", self.ROW[0], "bb")

    def test_places(self):
        self.assert_leads(True, "bb", ((1, "b", ""),), "b")
        self.assert_leads(False, "bb", ((True, "b", ""),), "b")
        self.assert_leads(False, "bb", ((False, "b", ""),), "b")
        self.assert_leads(False, "bb", ((-1, "b", ""),), "b")
        self.assert_leads(False, "bb", ((2, "b", ""),), "b")
        self.assert_leads(False, "bb", ((10 ** 30, "b", ""),), "b")
        self.assert_leads(False, "ab", ((0, "b", ""),), "a")

    def test_kinds_that_are_not_in_the_lot(self):
        self.assert_leads(False, "ab", ((0, "a", ""),), "b")
        self.assert_leads(False, "ab", ((0, "ab", ""),), "")
        self.assert_leads(False, "ab", ((0, "ab", "a"),), "a")
        self.assert_leads(False, "ab", ((0, "", "a"),), "aab")
        self.assert_leads(False, "ab", ((0, "ab", "b"),), "b", ())
        self.assert_leads(False, "a", ((0, "a", "a"),), "a", (("a", "b"),))

    def test_forms_of_deeds(self):
        for deed in ((0, "b"), (0, "b", "", ""), ("0", "b", ""), (0, ("b",), ""), (0, "b", None), (0, ["b"], [""])):
            self.assert_leads(False, "b", (deed,), "")

    def test_long_texts_on_the_way(self):
        kinds = (("", "a"), ("a", ""))
        row = tuple((place, "", "a") for place in range(40, 100))
        back = tuple((place, "a", "") for place in range(99, 39, -1))
        self.assert_leads(True, "a" * 40, row + back, "a" * 40, kinds)
        self.assert_leads(False, "a" * 40, row + back[:-1], "a" * 40, kinds)
        self.assert_leads(True, "a" * 40, ((40, "", "a"), (0, "a", "")), "a" * 40, kinds)
        self.assert_leads(False, "a" * 40, ((41, "", "a"), (0, "a", "")), "a" * 40, kinds)

    def test_many(self):
        chance = random.Random(66)
        for _ in range(300):
            kinds = random_kinds(chance, "ab")
            text = now = "".join(chance.choices("ab", k=chance.randint(0, 8)))
            row = []
            for _ in range(chance.randint(0, 6)):
                deeds = plain_deeds(kinds, now)
                if deeds:
                    row.append(chance.choice(deeds))
                    now = led(kinds, now, row[-1:])[0]
            self.assert_leads(True, text, tuple(row), now, kinds)
            chance.shuffle(row)
            self.assert_leads(led(kinds, text, row)[0] == now, text, tuple(row), now, kinds)

    def test_wrong_values(self):
        for value in ANY:
            if value not in ("a", "ab"):
                self.assertRaises(BadLetters, leads, value, value, value, value, value)
            if value not in ((), (("a", ""),)):
                self.assertRaises(BadKinds, leads, "ab", value, value, value, value)
            if not (isinstance(value, str) and set(value) <= set("ab") and len(value) <= 40):
                self.assertRaises(BadText, leads, "ab", KINDS, value, value, value)
                self.assertRaises(BadText, leads, "ab", KINDS, "a", value, value)
                self.assertRaises(BadText, leads, "ab", KINDS, "a", (), value)


if __name__ == "__main__":
    unittest.main()
