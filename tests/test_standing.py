"""[13] and [14]: bears, turned, borne, paper, judged."""

import random
import unittest

from anyscribe.books import reader_of
from anyscribe.copying import is_kept
from anyscribe.errors import BadKinds, BadReader
from anyscribe.readers import least, less
from anyscribe.standing import bears, borne, judged, paper, turned
from tests.scribes import all_kinds, plain_copy, plain_deeds, random_kinds
from tests.support import ANY, line_of, random_readers, renumbered, round_of, said, texts_of

NO_TEXT = ("ab", ((0, 0),), (False,))
EVERY_TEXT = ("ab", ((0, 0),), (True,))
AN_A = reader_of("ab", ".* a .*")
LONGEST = {"a": 9, "ab": 6, "abc": 5}


def plain_turned(reader, kinds, longest):
    for text in texts_of(reader[0], longest):
        for deed in plain_deeds(kinds, text):
            if said(reader, text) != said(reader, plain_copy(text, deed)):
                return (text, deed)
    return None


def other_side(reader):
    """The reader that says yes where the reader says no."""
    return reader[:2] + (tuple(not each for each in reader[2]),)


class Bears(unittest.TestCase):
    def test_example(self):
        self.assertIs(bears(AN_A, (("b", ""),)), True)

    def test_ordinary(self):
        self.assertIs(bears(AN_A, (("a", ""),)), False)
        self.assertIs(bears(AN_A, (("b", ""), ("", "b"), ("aa", "a"), ("ba", "a"), ("aba", "a"))), True)
        self.assertIs(bears(AN_A, (("b", ""), ("", "a"))), False)
        self.assertIs(bears(round_of("a", 3), (("aaa", ""),)), True)
        self.assertIs(bears(round_of("a", 3), (("aa", ""),)), False)
        self.assertIs(bears(reader_of("ab", "a*b*"), (("ab", "b"), ("ab", "a"), ("aa", "a"))), False)
        self.assertIs(bears(reader_of("ab", "a*b*"), (("aa", "a"), ("bb", "b"))), True)

    def test_no_kinds(self):
        for reader in random_readers(70, 40):
            self.assertIs(bears(reader, ()), True)

    def test_all_texts_and_none(self):
        kinds = tuple(all_kinds("ab")[:12])
        self.assertIs(bears(EVERY_TEXT, kinds), True)
        self.assertIs(bears(NO_TEXT, kinds), True)
        self.assertIs(bears(round_of("ab", 5, range(5)), kinds), True)

    def test_stands_that_are_not_come_to(self):
        # From the stand 2 alone, to which no text leads, the sides lead to unlike stands.
        reader = ("ab", ((0, 1), (1, 1), (0, 0)), (False, True, True))
        self.assertIs(bears(reader, (("a", ""),)), True)
        reader = ("ab", ((0, 1), (1, 1), (0, 1)), (False, True, True))
        self.assertIs(bears(reader, (("a", ""),)), True)
        self.assertIs(bears(reader, (("b", ""),)), False)
        # Now a text leads there.
        reader = ("ab", ((0, 2), (1, 1), (0, 0)), (False, True, True))
        self.assertIs(bears(reader, (("a", ""),)), False)

    def test_stands_alike(self):
        # The sides lead to two stands that say the same of everything.
        reader = ("ab", ((1, 2), (1, 2), (2, 2)), (False, False, True))
        self.assertIs(bears(reader, (("a", ""),)), True)
        self.assertIs(bears(reader, (("b", ""),)), False)

    def test_each_kind_alone(self):
        chance = random.Random(71)
        for reader in random_readers(72, 150, most=3):
            kinds = random_kinds(chance, reader[0], 4)
            self.assertIs(bears(reader, kinds), all(bears(reader, (kind,)) for kind in kinds))

    def test_borne_both_ways(self):
        # Nothing new comes of the texts said yes to, and nothing new of the others, exactly if no verdict is turned.
        chance = random.Random(73)
        for reader in random_readers(74, 150, most=3):
            kinds = random_kinds(chance, reader[0], 2)
            right = is_kept(reader, kinds) and is_kept(other_side(reader), kinds)
            self.assertIs(bears(reader, kinds), right)

    def test_wrong_values(self):
        for function in (bears, turned, paper):
            for value in ANY:
                if value != EVERY_TEXT:
                    self.assertRaises(BadReader, function, value, value)
                if value not in ((), (("a", ""),)):
                    self.assertRaises(BadKinds, function, EVERY_TEXT, value)
            self.assertRaises(BadKinds, function, EVERY_TEXT, (("c", ""),))


class Turned(unittest.TestCase):
    def test_example(self):
        self.assertEqual(turned(AN_A, (("a", ""), ("b", ""))), ("a", (0, "a", "")))

    def test_none(self):
        self.assertIsNone(turned(AN_A, (("b", ""), ("aa", "a"))))
        self.assertIsNone(turned(AN_A, ()))
        self.assertIsNone(turned(NO_TEXT, (("", "a"),)))

    def test_the_first_deed(self):
        self.assertEqual(turned(reader_of("ab", "aa"), (("a", "b"), ("a", ""))), ("aa", (0, "a", "")))
        self.assertEqual(turned(reader_of("ab", "aa"), (("a", "b"), ("", "a"))), ("a", (0, "", "a")))
        self.assertEqual(turned(reader_of("ab", "ab"), (("", "b"), ("", "a"))), ("a", (1, "", "b")))
        self.assertEqual(turned(reader_of("ab", "_"), (("", "b"), ("", "a"))), ("", (0, "", "a")))
        self.assertEqual(turned(reader_of("ab", "aba"), (("bab", "b"), ("b", "a"))), ("aba", (1, "b", "a")))

    def test_the_least_text_of_one_length(self):
        self.assertEqual(turned(reader_of("abc", "ca | bc"), (("c", "a"),)), ("bc", (1, "c", "a")))
        self.assertEqual(turned(reader_of("abc", "ba | ca"), (("c", "a"), ("b", ""))), ("ba", (0, "b", "")))
        self.assertEqual(turned(reader_of("ab", ". . . a"), (("bb", ""), ("", "b"))), ("aaa", (0, "", "b")))

    def test_any_order_of_kinds(self):
        chance = random.Random(75)
        for reader in random_readers(76, 100, most=4):
            kinds = random_kinds(chance, reader[0], 4)
            right = turned(reader, kinds)
            for _ in range(3):
                lot = tuple(chance.sample(kinds, len(kinds)))
                self.assertEqual(turned(reader, lot), right)

    def test_against_all_texts(self):
        chance = random.Random(77)
        for reader in random_readers(78, 300, ("a", "ab", "ab", "abc"), 4):
            kinds = random_kinds(chance, reader[0], 4)
            found = turned(reader, kinds)
            self.assertIs(bears(reader, kinds), found is None)
            right = plain_turned(reader, kinds, LONGEST[reader[0]])
            if right is not None or found is None:
                self.assertEqual(found, right, (reader, kinds))
            else:
                self.assertGreater(len(found[0]), LONGEST[reader[0]])

    def test_long_texts(self):
        self.assertEqual(turned(line_of("ab", 200, (199,)), (("b", ""),)), ("a" * 198 + "b", (198, "b", "")))
        self.assertEqual(turned(line_of("ab", 200, (199,)), (("", "b"),)), ("a" * 198, (0, "", "b")))
        self.assertEqual(turned(round_of("ab", 200, (199,)), (("aab", "b"),)), ("a" * 196 + "aab", (196, "aab", "b")))

    def test_stands_that_are_not_come_to(self):
        reader = ("ab", ((0, 1), (1, 1), (0, 0)), (False, True, True))
        self.assertIsNone(turned(reader, (("a", ""),)))
        self.assertEqual(turned(renumbered(AN_A, (0, 1)), (("a", "b"),)), ("a", (0, "a", "b")))


class Borne(unittest.TestCase):
    def test_example(self):
        self.assertEqual(borne(reader_of("a", "(aa)*")), (("aa", ""),))

    def test_ordinary(self):
        self.assertEqual(borne(AN_A), (("", "b"), ("b", ""), ("aa", "a"), ("ab", "a"), ("ba", "a"), ("bb", ""),
                                       ("bb", "b")))
        self.assertEqual(borne(reader_of("a", "a")), ())
        self.assertEqual(borne(reader_of("a", "a+")), (("aa", "a"),))

    def test_all_of_them(self):
        self.assertEqual(borne(("a", ((0,),), (True,))), (("", "a"), ("a", ""), ("aa", ""), ("aa", "a")))
        kinds = borne(NO_TEXT)
        self.assertEqual(kinds[:8], (("", "a"), ("", "b"), ("a", ""), ("a", "b"), ("b", ""), ("b", "a"), ("aa", ""),
                                     ("aa", "a")))
        self.assertEqual(kinds, tuple(all_kinds("ab", 2)))
        self.assertEqual(len(borne(("abcd", ((0, 0, 0, 0),), (True,)))), 21 * 5 - 5)

    def test_against_bears(self):
        for reader in random_readers(79, 100, most=3):
            right = tuple(kind for kind in all_kinds(reader[0], 2) if bears(reader, (kind,)))
            self.assertEqual(borne(reader), right)

    def test_stands_that_are_not_come_to(self):
        self.assertEqual(borne(("a", ((1,), (0,), (0,)), (True, False, False))), (("aa", ""),))
        self.assertEqual(borne(("a", ((1,), (0,), (2,)), (True, True, False))), borne(("a", ((0,),), (True,))))

    def test_wrong_values(self):
        for value in ANY:
            if value != EVERY_TEXT:
                self.assertRaises(BadReader, borne, value)


class Paper(unittest.TestCase):
    def test_example(self):
        self.assertEqual(paper(AN_A, (("b", ""),)), ("bears", (0, 1)))

    def test_bears(self):
        self.assertEqual(paper(NO_TEXT, (("", "a"),)), ("bears", (0,)))
        self.assertEqual(paper(AN_A, ()), ("bears", (0, 1)))
        # Numbers are those of the least reader, whatever the stands' own; None for those not come to.
        reader = ("ab", ((3, 1), (1, 1), (1, 1), (4, 4), (3, 4)), (False, True, True, False, False))
        self.assertEqual(least(reader), ("ab", ((1, 2), (1, 1), (2, 2)), (False, False, True)))
        self.assertEqual(paper(reader, (("aa", "a"),)), ("bears", (0, 2, None, 1, 1)))
        reader = ("ab", ((2, 2), (1, 0), (2, 1)), (False, True, False))
        self.assertEqual(paper(reader, ()), ("bears", (0, 2, 1)))

    def test_turned(self):
        self.assertEqual(paper(AN_A, (("a", ""), ("b", ""))), ("turned", "a", (0, "a", "")))
        self.assertEqual(paper(EVERY_TEXT, (("a", ""),)), ("bears", (0,)))

    def test_many(self):
        chance = random.Random(80)
        for reader in random_readers(81, 200, most=5):
            kinds = random_kinds(chance, reader[0])
            found = paper(reader, kinds)
            self.assertIs(judged(reader, kinds, found), True)
            if bears(reader, kinds):
                small = least(reader)
                self.assertEqual(found[0], "bears")
                self.assertEqual(len(found), 2)
                classes = found[1]
                self.assertEqual(classes[0], 0)
                for stand, number in enumerate(classes):
                    if number is not None:
                        self.assertEqual(reader[2][stand], small[2][number])
                        self.assertEqual(tuple(classes[to] for to in reader[1][stand]), small[1][number])
            else:
                self.assertEqual(found, ("turned",) + turned(reader, kinds))


class Judged(unittest.TestCase):
    # Three stands that a text leads to, the last two of them alike, and one that none leads to.
    READER = ("ab", ((1, 0), (2, 1), (1, 2), (0, 3)), (False, True, True, True))
    KINDS = (("b", ""), ("aa", "a"))

    def assert_judged(self, right, value, kinds=KINDS, reader=READER):
        self.assertIs(judged(reader, kinds, value), right, value)

    def test_example(self):
        self.assert_judged(True, ("bears", (0, 1)), (("b", ""),), AN_A)
        self.assert_judged(False, ("bears", (0, 0)), (("b", ""),), AN_A)

    def test_paper_itself(self):
        self.assertEqual(paper(self.READER, self.KINDS), ("bears", (0, 1, 1, None)))
        self.assert_judged(True, ("bears", (0, 1, 1, None)))
        self.assertEqual(paper(self.READER, (("a", "b"),)), ("turned", "a", (0, "a", "b")))
        self.assert_judged(True, ("turned", "a", (0, "a", "b")), (("a", "b"),))

    def test_any_value(self):
        for value in ANY:
            self.assert_judged(False, value)
            self.assert_judged(False, (value,))
            self.assert_judged(False, ("bears", value))
            self.assert_judged(False, (value, (0, 1, 1, None)))
            is_number = isinstance(value, int) and not isinstance(value, bool) and value >= 0
            self.assert_judged(is_number and value != 1, ("bears", (value, 1, 1, None)))
            is_turned = isinstance(value, str) and set(value) <= set("ab") and value[:1] == "a" and "a" not in value[1:]
            self.assert_judged(is_turned, ("turned", value, (0, "a", "b")), (("a", "b"),))
            self.assert_judged(False, ("turned", "a", value), (("a", "b"),))
            self.assert_judged(False, ("turned", value, value), (("a", "b"),))
            self.assert_judged(False, (value, "a", (0, "a", "b")), (("a", "b"),))

    def test_another_first_word(self):
        for word in ("turned", "Bears", "bear", "", "bears ", None, ("bears",), True):
            self.assert_judged(False, (word, (0, 1, 1, None)))
        for word in ("bears", "turn", "TURNED", "", None):
            self.assert_judged(False, (word, "a", (0, "a", "b")), (("a", "b"),))

    def test_one_part_more_or_less(self):
        self.assert_judged(False, ("bears",))
        self.assert_judged(False, ("bears", (0, 1, 1, None), None))
        self.assert_judged(False, ("bears", (0, 1, 1, None), ()))
        self.assert_judged(False, ())
        self.assert_judged(False, ("turned", "a"), (("a", "b"),))
        self.assert_judged(False, ("turned", ("a", (0, "a", "b"))), (("a", "b"),))
        self.assert_judged(False, ("turned", "a", (0, "a", "b"), "b"), (("a", "b"),))

    def test_lists_and_others_for_tuples(self):
        self.assert_judged(False, ["bears", (0, 1, 1, None)])
        self.assert_judged(False, ("bears", [0, 1, 1, None]))
        self.assert_judged(False, ("bears", {0: 0, 1: 1, 2: 1, 3: None}))
        self.assert_judged(False, ("bears", "0112"))
        self.assert_judged(False, ["turned", "a", (0, "a", "b")], (("a", "b"),))
        self.assert_judged(False, ("turned", "a", [0, "a", "b"]), (("a", "b"),))
        self.assert_judged(False, ("turned", ["a"], (0, "a", "b")), (("a", "b"),))

    def test_too_many_and_too_few_numbers(self):
        for classes in ((), (0,), (0, 1, 1), (0, 1, 1, None, None), (0, 1, 1, None, 2)):
            self.assert_judged(False, ("bears", classes))

    def test_numbers(self):
        self.assert_judged(False, ("bears", (None, 1, 1, None)))
        self.assert_judged(False, ("bears", (None, None, None, None)))
        self.assert_judged(False, ("bears", (0, True, True, None)))
        self.assert_judged(False, ("bears", (0, 1, True, None)))
        self.assert_judged(False, ("bears", (False, 1, 1, None)))
        self.assert_judged(False, ("bears", (-1, 1, 1, None)))
        self.assert_judged(False, ("bears", (0, -1, -1, None)))
        self.assert_judged(False, ("bears", (0, "1", "1", None)))
        self.assert_judged(False, ("bears", (0, (1,), (1,), None)))
        self.assert_judged(False, ("bears", (0, [1], [1], None)))
        self.assert_judged(False, ("bears", (0, 1, 1, {})))
        self.assert_judged(False, ("bears", (0, 1, 1, False)))

    def test_other_numbers_that_show_the_same(self):
        self.assert_judged(True, ("bears", (5, 3, 3, None)))
        self.assert_judged(True, ("bears", (10 ** 30, 0, 0, None)))
        self.assert_judged(True, ("bears", (1, 0, 0, None)))

    def test_stands_that_are_not_come_to_may_have_a_number(self):
        # From the stand 3 b leads nowhere else, but aa and a lead to stands with unlike numbers.
        self.assert_judged(True, ("bears", (0, 1, 1, 2)), (("b", ""),))
        self.assert_judged(True, ("bears", (0, 1, 1, 2)), (("b", ""), ("bab", "a")))
        self.assert_judged(False, ("bears", (0, 1, 1, 2)), (("b", ""), ("aaa", "a")))
        self.assert_judged(False, ("bears", (0, 1, 1, 2)))
        self.assert_judged(False, ("bears", (0, 1, 1, 1)))
        self.assert_judged(False, ("bears", (0, 1, 1, 0)))

    def test_finer_classes(self):
        # Alike stands may have numbers of their own, if what is told of the numbers holds.
        reader = ("ab", ((1, 0), (1, 2), (2, 1)), (False, True, True))
        self.assert_judged(True, ("bears", (0, 1, 1)), (("b", ""), ("aa", "a")), reader)
        self.assert_judged(True, ("bears", (0, 1, 2)), (("aa", "a"),), reader)
        self.assert_judged(False, ("bears", (0, 1, 2)), (("b", ""), ("aa", "a")), reader)
        self.assert_judged(True, ("bears", (0, 1, 2)), (("bb", ""),), reader)

    def test_coarser_classes(self):
        self.assert_judged(False, ("bears", (0, 0, 0, None)))
        self.assert_judged(False, ("bears", (0, 0, 1, None)))
        # One number with the same yes, but unlike stands behind it.
        reader = reader_of("ab", "a a a")
        self.assertEqual(len(reader[1]), 5)
        self.assert_judged(False, ("bears", (0, 0, 0, 0, 1)), (("b", ""),), reader)
        self.assert_judged(False, ("bears", (0, 0, 0, 0, 1)), (), reader)
        self.assert_judged(True, ("bears", (0, 1, 2, 3, 4)), (), reader)
        self.assert_judged(False, ("bears", (0, 1, 2, 3, 4)), (("ab", "b"),), EVERY_TEXT)

    def test_from_a_number_to_none(self):
        self.assert_judged(False, ("bears", (0, 1, None, None)))
        self.assert_judged(False, ("bears", (0, None, None, None)))
        self.assert_judged(False, ("bears", (0, None, 1, None)))
        self.assert_judged(False, ("bears", (0, None)), (), AN_A)

    def test_sides_that_lead_apart(self):
        self.assert_judged(False, ("bears", (0, 1, 1, None)), (("a", ""),))
        self.assert_judged(False, ("bears", (0, 1, 1, None)), (("b", ""), ("a", "b")))
        self.assert_judged(False, ("bears", (0, 1)), (("a", ""),), AN_A)

    def test_turned(self):
        kinds = (("a", ""), ("b", ""), ("ab", ""))
        self.assert_judged(True, ("turned", "a", (0, "a", "")), kinds, AN_A)
        # Neither the least text nor the first deed is asked for.
        self.assert_judged(True, ("turned", "bbab", (2, "a", "")), kinds, AN_A)
        self.assert_judged(True, ("turned", "bbab", (2, "ab", "")), kinds, AN_A)
        self.assert_judged(False, ("turned", "b", (0, "b", "")), kinds, AN_A)
        self.assert_judged(False, ("turned", "aa", (0, "a", "")), kinds, AN_A)
        self.assert_judged(False, ("turned", "bbab", (0, "a", "")), kinds, AN_A)
        self.assert_judged(False, ("turned", "bbab", (3, "ab", "")), kinds, AN_A)
        self.assert_judged(False, ("turned", "bbab", (-2, "ab", "")), kinds, AN_A)
        self.assert_judged(False, ("turned", "ba", (True, "a", "")), kinds, AN_A)
        self.assert_judged(True, ("turned", "ba", (1, "a", "")), kinds, AN_A)

    def test_turned_by_no_kind_of_the_lot(self):
        self.assert_judged(False, ("turned", "a", (0, "a", "b")), (("a", ""),), AN_A)
        self.assert_judged(False, ("turned", "a", (0, "a", "")), (), AN_A)
        self.assert_judged(False, ("turned", "b", (0, "", "a")), (("a", ""),), AN_A)

    def test_turned_texts(self):
        kinds = (("a", ""),)
        for text in ("ac", "A", "a ", "a\n"):
            self.assert_judged(False, ("turned", text, (0, "a", "")), kinds, AN_A)
        for length in (39, 40, 41, 1000):
            self.assert_judged(True, ("turned", "b" * length + "a", (length, "a", "")), kinds, AN_A)
            self.assert_judged(False, ("turned", "a" * length + "a", (length, "a", "")), kinds, AN_A)
        self.assert_judged(True, ("turned", "b" * 50, (50, "", "a")), (("", "a"),), AN_A)
        self.assert_judged(False, ("turned", "b" * 50, (51, "", "a")), (("", "a"),), AN_A)

    def test_both_kinds_of_paper(self):
        # Where the reader bears the kinds nothing shows that it does not, and the other way round.
        chance = random.Random(82)
        for reader in random_readers(83, 60, ("a", "ab"), 3):
            kinds = random_kinds(chance, reader[0], 2)
            stands = len(reader[1])
            numbers = [(first,) + rest for first in range(2) for rest in classes_of(stands - 1)]
            shown = any(judged(reader, kinds, ("bears", classes)) for classes in numbers)
            turning = any(judged(reader, kinds, ("turned", text, deed)) for text in texts_of(reader[0], 4)
                          for deed in plain_deeds(kinds, text))
            self.assertFalse(shown and turning)
            if turning:
                self.assertIs(bears(reader, kinds), False)
            self.assertIs(shown, bears(reader, kinds))

    def test_wrong_values(self):
        for value in ANY:
            if value != EVERY_TEXT:
                self.assertRaises(BadReader, judged, value, value, value)
            if value not in ((), (("a", ""),)):
                self.assertRaises(BadKinds, judged, EVERY_TEXT, value, value)


def classes_of(many):
    """All tuples of so many numbers from 0 to 2, or None."""
    if many == 0:
        return [()]
    return [(number,) + rest for number in (None, 0, 1, 2) for rest in classes_of(many - 1)]


if __name__ == "__main__":
    unittest.main()
