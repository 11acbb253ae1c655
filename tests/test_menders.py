"""[17] to [19]: mended, mending, is_one_way, overlap, failing, brings_back."""

import random
import unittest

from anyscribe.copying import comes_by
from anyscribe.books import reader_of
from anyscribe.errors import BadKinds, BadLetters, BadMender, BadNumber, BadText, BadTexts
from anyscribe.menders import brings_back, failing, is_one_way, mended, mending, overlap
from anyscribe.ways import leads
from tests.scribes import all_kinds, led, plain_copy, plain_deeds, random_kinds, texts_said
from tests.support import ANY, ascending, texts_of

PAIR = (("ab", ""),)


def random_mender(chance, letters, most=4):
    kinds = [kind for kind in all_kinds(letters) if len(kind[0]) > len(kind[1])]
    lengths = chance.choice(((1, 2, 3), (2, 3), (2,), (3,)))
    kinds = [kind for kind in kinds if len(kind[0]) in lengths]
    return tuple(chance.sample(kinds, min(len(kinds), chance.randint(0, most))))


def plain_mending(mender, text):
    """The deeds of a mender, each found among all deeds on the text by the definition."""
    row = []
    while plain_deeds(mender, text):
        deed = min(plain_deeds(mender, text), key=lambda each: (each[0], -len(each[1]), mender.index(each[1:])))
        row.append(deed)
        text = plain_copy(text, deed)
    return tuple(row), text


def ends_of(mender, text, kept):
    """The set of all texts in which orders of deeds end."""
    if text not in kept:
        deeds = plain_deeds(mender, text)
        ends = [ends_of(mender, plain_copy(text, deed), kept) for deed in deeds]
        kept[text] = frozenset().union(*ends) if deeds else frozenset([text])
    return kept[text]


class Mended(unittest.TestCase):
    def assert_mended(self, letters, mender, text, right, row=None):
        found = mending(letters, mender, text)
        self.assertEqual(mended(letters, mender, text), right)
        self.assertIsInstance(found, tuple)
        self.assertEqual((found, right), plain_mending(mender, text))
        self.assertEqual(led(mender, text, found)[0], right)
        self.assertIs(leads(letters, mender, text, found, right), True)
        if row is not None:
            self.assertEqual(found, row)

    def test_example(self):
        self.assert_mended("ab", PAIR, "aabb", "", ((1, "ab", ""), (0, "ab", "")))

    def test_nothing_to_do(self):
        self.assert_mended("ab", PAIR, "", "", ())
        self.assert_mended("ab", PAIR, "bbaa", "bbaa", ())
        self.assert_mended("ab", (), "abab", "abab", ())
        self.assert_mended("ab", (("aaa", ""),), "aa", "aa", ())

    def test_the_first_place(self):
        self.assert_mended("ab", (("ba", "b"), ("ab", "a")), "aba", "aa", ((0, "ab", "a"),))
        self.assert_mended("ab", (("b", ""), ("a", "")), "ab", "", ((0, "a", ""), (0, "b", "")))
        self.assert_mended("ab", (("bb", "a"),), "bbbb", "aa", ((0, "bb", "a"), (1, "bb", "a")))
        self.assert_mended("a", (("aa", "a"),), "aaaa", "a", ((0, "aa", "a"), (0, "aa", "a"), (0, "aa", "a")))

    def test_the_longest_l(self):
        self.assert_mended("ab", (("a", ""), ("ab", ""), ("aba", "b")), "abab", "bb", ((0, "aba", "b"),))
        self.assert_mended("ab", (("a", ""), ("ab", "")), "abb", "b", ((0, "ab", ""),))
        self.assert_mended("ab", (("ab", ""), ("a", "")), "abb", "b", ((0, "ab", ""),))
        # A longer l at a later place does not count.
        self.assert_mended("ab", (("a", ""), ("baa", "b")), "abaa", "b", ((0, "a", ""), (0, "baa", "b")))

    def test_the_first_in_the_lot(self):
        self.assert_mended("ab", (("ab", "b"), ("ab", "a"), ("ab", "")), "ab", "b", ((0, "ab", "b"),))
        self.assert_mended("ab", (("ab", "a"), ("ab", ""), ("ab", "b")), "ab", "a", ((0, "ab", "a"),))
        self.assert_mended("ab", (("b", ""), ("ab", ""), ("ab", "a")), "ab", "", ((0, "ab", ""),))

    def test_what_a_deed_makes(self):
        self.assert_mended("abc", (("ab", "c"), ("cc", "a")), "ababb", "c",
                           ((0, "ab", "c"), (1, "ab", "c"), (0, "cc", "a"), (0, "ab", "c")))
        self.assert_mended("ab", (("aab", "b"), ("bbb", "a")), "aabbbaab", "ab")

    def test_forty_letters(self):
        self.assert_mended("ab", PAIR, "a" * 20 + "b" * 20, "")
        self.assert_mended("a", (("aa", "a"),), "a" * 40, "a")
        self.assert_mended("a", (("aaa", ""),), "a" * 40, "a")
        self.assertEqual(len(mending("a", (("a", ""),), "a" * 40)), 40)

    def test_random_ones(self):
        chance = random.Random(110)
        for _ in range(400):
            letters = chance.choice(("a", "ab", "abc", "abcd"))
            mender = random_mender(chance, letters, 12)
            text = "".join(chance.choices(letters, k=chance.randint(0, 14)))
            self.assert_mended(letters, mender, text, plain_mending(mender, text)[1])

    def test_no_mender(self):
        for function in (mended, mending):
            for kind in (("a", "b"), ("", "a"), ("b", "a")):
                for lot in ((kind,), (("ab", ""), kind), (kind, ("ab", ""))):
                    self.assertRaises(BadMender, function, "ab", lot, "ab")
                    self.assertRaises(BadMender, function, "ab", lot, "abc")
                    self.assertRaises(BadMender, function, "ab", lot, None)
                    self.assertRaises(BadKinds, function, "ab", lot + (("a", "a"),), None)
                    self.assertRaises(BadKinds, function, "ab", lot + lot, "ab")
            self.assertRaises(BadText, function, "ab", PAIR, "abc")

    def test_wrong_values(self):
        for function in (mended, mending):
            for value in ANY:
                if value not in ("a", "ab"):
                    self.assertRaises(BadLetters, function, value, value, value)
                if value not in ((), (("a", ""),)):
                    self.assertRaises(BadKinds, function, "ab", value, value)
                if not (isinstance(value, str) and set(value) <= set("ab") and len(value) <= 40):
                    self.assertRaises(BadText, function, "ab", PAIR, value)


class OneWay(unittest.TestCase):
    def assert_overlap(self, letters, mender, text):
        self.assertEqual(overlap(letters, mender), text, mender)
        self.assertIs(is_one_way(letters, mender), text is None)
        for lot in (mender[::-1], mender[1:] + mender[:1]):
            self.assertEqual(overlap(letters, lot), text)

    def test_example(self):
        self.assertIs(is_one_way("ab", PAIR), True)
        self.assert_overlap("ab", (("ab", "a"), ("ba", "b")), "aba")

    def test_no_l_overlaps(self):
        self.assert_overlap("ab", (), None)
        self.assert_overlap("ab", PAIR, None)
        self.assert_overlap("abcd", (("ab", ""), ("cd", "a")), None)
        self.assert_overlap("ab", (("a", ""), ("b", "")), None)

    def test_an_l_with_itself(self):
        self.assert_overlap("a", (("aa", "a"),), None)
        self.assert_overlap("a", (("aaa", "a"),), None)
        self.assert_overlap("ab", (("aa", "b"),), "aaa")
        self.assert_overlap("ab", (("aba", ""),), "ababa")
        self.assert_overlap("ab", (("aba", "a"),), None)
        self.assert_overlap("ab", (("aba", "b"),), "ababa")
        self.assert_overlap("a", (("aaa", ""),), None)
        self.assert_overlap("ab", (("aaa", "b"),), "aaaa")

    def test_one_within_another(self):
        self.assert_overlap("ab", (("aba", "a"), ("b", "")), "aba")
        self.assert_overlap("ab", (("aba", ""), ("b", "")), "aba")
        self.assert_overlap("ab", (("aba", "a"), ("b", ""), ("aa", "a")), None)
        self.assert_overlap("ab", (("bab", "b"), ("a", "")), "bab")
        self.assert_overlap("abc", (("abc", "a"), ("b", "")), "abc")

    def test_one_l_twice(self):
        self.assert_overlap("ab", (("ab", ""), ("ab", "a")), "ab")
        self.assert_overlap("ab", (("ab", "b"), ("ab", "a")), "ab")
        self.assert_overlap("ab", (("aa", ""), ("aa", "b"), ("b", "")), None)
        self.assert_overlap("ab", (("ab", "b"), ("ab", "a"), ("a", ""), ("b", "")), None)

    def test_beginnings_and_ends(self):
        self.assert_overlap("ab", (("ab", "a"), ("a", "")), "ab")
        self.assert_overlap("ab", (("ab", "b"), ("a", "")), None)
        self.assert_overlap("ab", (("ab", ""), ("b", "")), "ab")
        self.assert_overlap("ab", (("ab", "a"), ("b", "")), None)
        self.assert_overlap("abc", (("ab", "a"), ("bc", "")), "abc")
        self.assert_overlap("abc", (("ab", "a"), ("bc", "c")), None)
        self.assert_overlap("abc", (("ab", "a"), ("bc", "b")), "abc")

    def test_one_end_after_several_deeds(self):
        # ddbc becomes bc, and then c; or ddc, and then dc and c.
        self.assert_overlap("abcd", (("bc", "c"), ("dc", "c"), ("ddb", "b")), None)
        self.assert_overlap("abcd", (("bc", "c"), ("ddb", "b")), "ddbc")
        self.assert_overlap("ab", (("aab", "b"), ("aba", "a"), ("aa", "a"), ("ab", ""), ("b", ""), ("a", "")), None)
        self.assert_overlap("ab", (("aa", "b"), ("bb", "a"), ("ab", ""), ("ba", "")), None)

    def test_the_least_of_all_texts(self):
        # Several texts end in unlike ones, with the shortest and then the first of them told.
        self.assert_overlap("ab", (("bb", "a"), ("aa", "b")), "aaa")
        self.assert_overlap("abc", (("cc", "a"), ("bb", "a")), "bbb")
        self.assert_overlap("abc", (("ccc", "a"), ("bb", "a")), "bbb")
        self.assert_overlap("abc", (("bcb", "a"), ("cc", "b")), "ccc")

    def test_against_all_texts_and_all_orders(self):
        chance = random.Random(111)
        longest = {"a": 12, "ab": 7, "abc": 5}
        ways = {True: 0, False: 0}
        for _ in range(150):
            letters = chance.choice(("a", "ab", "ab", "ab", "abc"))
            mender = random_mender(chance, letters)
            kept = {}
            right = next((text for text in texts_of(letters, longest[letters])
                          if len(ends_of(mender, text, kept)) > 1), None)
            self.assert_overlap(letters, mender, right)
            ways[right is None] += 1
        self.assertGreater(min(ways.values()), 30)

    def test_four_letters(self):
        self.assert_overlap("abcd", (("dcd", ""),), "dcdcd")
        self.assert_overlap("abcd", tuple((a + b, a) for a in "abcd" for b in "bcd"), None)
        self.assert_overlap("abcd", tuple((a + b, b) for a in "abcd" for b in "bcd"), None)

    def test_wrong_values(self):
        for function in (is_one_way, overlap):
            for value in ANY:
                if value not in ("a", "ab"):
                    self.assertRaises(BadLetters, function, value, value)
                if value not in ((), (("a", ""),)):
                    self.assertRaises(BadKinds, function, "ab", value)
            self.assertRaises(BadMender, function, "ab", (("a", "b"),))
            self.assertRaises(BadMender, function, "ab", (("ab", "b"), ("", "b")))
            self.assertRaises(BadKinds, function, "ab", (("a", "b"), ("a", "b")))


def plain_failing(kinds, many, mender, texts):
    for text in texts:
        level, seen = {text}, {text}
        for count in range(many + 1):
            wrong = [copy for copy in level if plain_mending(mender, copy)[1] != text]
            if wrong:
                return (text, ascending(wrong)[0])
            level = {plain_copy(each, deed) for each in level for deed in plain_deeds(kinds, each)} - seen
            seen |= level
    return None


class Failing(unittest.TestCase):
    def assert_failing(self, right, letters, kinds, many, mender, texts):
        self.assertEqual(failing(letters, kinds, many, mender, texts), right)
        self.assertIs(brings_back(letters, kinds, many, mender, texts), right is None)

    def test_example(self):
        self.assert_failing(("ab", "a"), "ab", (("b", ""),), 1, (("aa", "a"),), ("ab",))
        self.assertIs(brings_back("ab", (("", "b"),), 2, (("bb", "b"),), ("ab", "b")), False)
        self.assert_failing(("ab", "bab"), "ab", (("", "b"),), 2, (("bb", "b"),), ("ab", "b"))

    def test_numbers(self):
        # A slip of b is mended as long as there is one b more at most.
        mender = (("bb", "b"),)
        self.assert_failing(None, "ab", (("b", ""),), 0, mender, ("ab", "aba"))
        self.assert_failing(("ab", "a"), "ab", (("b", ""),), 1, mender, ("ab", "aba"))
        kinds = (("", "c"),)
        for many in range(4):
            self.assert_failing(None, "abc", kinds, many, (("c", ""),), ("ab", "aba", "", "bbbbbbbb"))
        for many, right in ((0, None), (1, None), (2, None), (3, ("b", ""))):
            self.assert_failing(right, "ab", (("bb", "b"),) if many < 3 else (("b", ""),), many, mender, ("b",))
        chain = (("a", "b"), ("b", "c"), ("c", "d"))
        for many, right in ((0, None), (1, ("a", "b")), (2, ("a", "b")), (3, ("a", "b"))):
            self.assert_failing(right, "abcd", chain, many, (("dd", "d"),), ("a",))

    def test_fewest_deeds_and_then_the_least(self):
        # Three deeds are needed to get to a text that the mender does not lead back.
        chain = (("", "c"), ("cc", "d"))
        self.assert_failing(None, "abcd", chain, 2, (("c", ""),), ("a",))
        self.assert_failing(("a", "ad"), "abcd", chain, 3, (("c", ""),), ("a",))
        self.assert_failing(("ab", "b"), "ab", (("b", "a"), ("a", "")), 2, (("aa", "a"),), ("ab",))
        self.assert_failing(("bb", "ab"), "ab", (("b", "a"), ("a", "")), 2, (), ("bb",))
        self.assert_failing(("bb", "b"), "ab", (("b", "a"), ("b", "")), 2, (), ("bb",))

    def test_nearer_copies_are_ahead_of_lesser_ones(self):
        # The empty text is the least copy, but two deeds away.
        self.assert_failing(("ab", "a"), "ab", (("b", ""), ("a", "")), 2, (), ("ab",))
        self.assert_failing(("ab", "abb"), "ab", (("", "b"), ("abb", "")), 2, (("ba", "b"),), ("ab",))

    def test_the_first_text(self):
        kinds = (("b", ""),)
        self.assert_failing(("bb", "b"), "ab", kinds, 1, (), ("a", "bb", "b"))
        self.assert_failing(("b", ""), "ab", kinds, 1, (), ("a", "b", "bb"))
        self.assert_failing(("b", ""), "ab", kinds, 1, (), ("aaaa", "b", "b"))

    def test_one_text_twice(self):
        self.assert_failing(("b", ""), "ab", (("b", ""),), 2, (), ("b", "b"))
        self.assert_failing(None, "ab", (("b", ""),), 2, (), ("a", "a", "a"))

    def test_texts_that_the_mender_changes(self):
        for many in range(4):
            self.assert_failing(("aab", "aab"), "ab", (), many, (("aa", "a"),), ("ab", "aab"))
            self.assert_failing(("aab", "aab"), "ab", (("a", "b"), ("", "a")), many, (("aa", "a"),), ("aab", "ab"))

    def test_no_texts_and_no_kinds(self):
        for many in range(4):
            self.assert_failing(None, "ab", (("a", "b"),), many, (), ())
            self.assert_failing(None, "ab", (), many, (("aa", "a"),), ("ab", ""))

    def test_copies_longer_than_eight_letters(self):
        self.assert_failing(None, "ab", (("", "b"),), 3, (("b", ""),), ("a" * 8,))
        self.assert_failing(("a" * 8, "a" * 9), "ab", (("", "a"),), 3, (("b", ""),), ("a" * 8,))
        self.assert_failing(None, "ab", (("", "b"),), 3, (("b", ""),), ("a" * 8,) * 20)

    def test_against_all_copies(self):
        chance = random.Random(112)
        found = []
        for _ in range(250):
            letters = chance.choice(("a", "ab", "abc"))
            kinds, mender = random_kinds(chance, letters), random_mender(chance, letters)
            many = chance.randint(0, 3)
            texts = tuple("".join(chance.choices(letters, k=chance.randint(0, 3))) for _ in range(chance.randint(0, 3)))
            texts = tuple(plain_mending(mender, text)[1] for text in texts) if chance.random() < 0.8 else texts
            right = plain_failing(kinds, many, mender, texts)
            self.assert_failing(right, letters, kinds, many, mender, texts)
            found.append(right)
        self.assertGreater(min(found.count(None), len(found) - found.count(None)), 40)

    def test_against_what_comes(self):
        chance = random.Random(113)
        for _ in range(60):
            kinds, mender, many = random_kinds(chance, "ab", 2), random_mender(chance, "ab"), chance.randint(0, 3)
            text = mended("ab", mender, "".join(chance.choices("ab", k=2)))
            copies = texts_said(comes_by(reader_of("ab", text or "_"), kinds, many), 2 + many)
            right = all(mended("ab", mender, copy) == text for copy in copies)
            self.assertIs(brings_back("ab", kinds, many, mender, (text,)), right)

    def test_bad_texts(self):
        for texts in (["a"], "a", None, ("a",) * 21, ("a" * 9,), ("a", "a" * 9), ("c",), ("a", "ab\n"), (("a",),),
                      (None,), (1,), {"a": "b"}, ("a", ["a"]), ("A",), 0):
            self.assertRaises(BadTexts, failing, "ab", (), 1, (), texts)
            self.assertRaises(BadTexts, brings_back, "ab", (), 1, (), texts)
            self.assertRaises(BadMender, failing, "ab", (), 1, (("a", "b"),), texts)
            self.assertRaises(BadKinds, failing, "ab", (), 1, (("a", "a"),), texts)
            self.assertRaises(BadNumber, failing, "ab", (), 4, (("a", "a"),), texts)
        self.assert_failing(None, "ab", (), 1, (), ("a",) * 20)
        self.assert_failing(None, "ab", (), 1, (), ("a" * 8,))

    def test_wrong_values(self):
        for function in (failing, brings_back):
            for value in ANY + (4,):
                if value not in ("a", "ab"):
                    self.assertRaises(BadLetters, function, value, value, value, value, value)
                if value not in ((), (("a", ""),)):
                    self.assertRaises(BadKinds, function, "ab", value, value, value, value)
                    self.assertRaises(BadKinds, function, "ab", (), 3, value, value)
                if not isinstance(value, int) or isinstance(value, bool) or not 0 <= value <= 3:
                    self.assertRaises(BadNumber, function, "ab", (), value, value, value)
                if value not in ((), ("a", ""), ("a", "a")):
                    self.assertRaises(BadTexts, function, "ab", (), 3, (), value)


if __name__ == "__main__":
    unittest.main()
