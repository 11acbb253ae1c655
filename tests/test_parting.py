"""[15] and [16]: are_apart, meeting, teller, most_kinds, can_meet, greatest_lot."""

import random
import unittest
from itertools import combinations

from anyscribe.books import reader_of
from anyscribe.copying import comes
from anyscribe.errors import (BadKinds, BadLetters, BadNumber, BadReader, BadText, NotApart, TooMany, Unlike)
from anyscribe.parting import are_apart, can_meet, greatest_lot, meeting, most_kinds, teller
from anyscribe.readers import both, least, least_text
from anyscribe.standing import bears
from tests.scribes import descendants, plain_comes, random_kinds, texts_said
from tests.support import ANY, line_of, random_pairs, random_readers, round_of, said, texts_of

NO_TEXT = ("ab", ((0, 0),), (False,))
EVERY_TEXT = ("ab", ((0, 0),), (True,))
ONE, OTHER = reader_of("ab", "a+"), reader_of("ab", "b+")
NINE = (("a", ""), ("b", ""), ("a", "b"), ("b", "a"), ("aa", ""), ("aa", "a"), ("aa", "b"), ("ab", ""), ("ab", "a"))
# Between the eight stands nearly all lots of stands can be come to by these kinds.
WILD = ("abcd", ((1, 2, 1, 3), (4, 1, 4, 1), (5, 4, 6, 3), (6, 5, 4, 1), (0, 2, 7, 3), (3, 7, 1, 0), (2, 7, 2, 6),
                 (7, 7, 3, 6)), (True, False, False, True, True, True, True, True))
WILD_KINDS = (("c", "b"), ("a", "b"))


def meant(text, letters="ab"):
    return reader_of(letters, text)


def plain_apart(one, other, kinds):
    """Whether no text comes of both, by machines that are made in another way and by all pairs of their stands."""
    one, other = plain_comes(one, kinds), plain_comes(other, kinds)
    pairs = [(0, 0)]
    for first, second in pairs:
        if one[2][first] and other[2][second]:
            return False
        pairs.extend(pair for pair in set(zip(one[1][first], other[1][second])) if pair not in pairs)
    return True


class Parting(unittest.TestCase):
    def assert_too_many(self, most, function, *values):
        with self.assertRaises(TooMany) as caught:
            function(*values)
        self.assertEqual(caught.exception.most, most)


class Apart(Parting):
    def assert_meeting(self, text, one, other, kinds):
        self.assertEqual(meeting(one, other, kinds), text)
        self.assertEqual(meeting(other, one, kinds), text)
        self.assertIs(are_apart(one, other, kinds), text is None)
        self.assertIs(are_apart(other, one, kinds), text is None)
        if text is None:
            self.assertEqual(teller(one, other, kinds), comes(one, kinds))
        else:
            self.assertRaises(NotApart, teller, one, other, kinds)

    def test_example(self):
        self.assertIs(are_apart(ONE, OTHER, (("a", ""),)), True)
        self.assertEqual(meeting(ONE, OTHER, (("a", ""), ("b", ""))), "")
        self.assertEqual(teller(ONE, OTHER, ()), ONE)

    def test_ordinary(self):
        self.assert_meeting(None, ONE, OTHER, ())
        self.assert_meeting(None, ONE, OTHER, (("a", ""), ("ba", "b")))
        self.assert_meeting("b", ONE, OTHER, (("a", "b"),))
        self.assert_meeting("bb", meant("aa"), meant("b*"), (("a", "b"),))

    def test_slips(self):
        self.assert_meeting("aabb", meant("aa"), meant("bb"), (("", "a"), ("", "b")))
        self.assert_meeting("ab", ONE, OTHER, (("", "a"), ("", "b")))
        self.assert_meeting("b", ONE, OTHER, (("", "b"), ("", "a"), ("aa", "b")))
        self.assert_meeting(None, ONE, OTHER, (("", "a"),))

    def test_the_least_text(self):
        self.assert_meeting("b", meant("ab | ba", "abc"), meant("b | c", "abc"), (("a", ""), ("b", "c")))
        self.assert_meeting("ab", meant("ba | ab"), meant(". ."), ())
        self.assert_meeting("ba", meant("ba | bb"), meant(". ."), ())

    def test_no_text(self):
        for other in (NO_TEXT, EVERY_TEXT, ONE):
            for kinds in ((), (("", "a"), ("a", "")), (("a", "b"),)):
                self.assert_meeting(None, NO_TEXT, other, kinds)
        self.assertEqual(teller(NO_TEXT, NO_TEXT, (("", "a"),)), NO_TEXT)
        self.assertEqual(teller(("ab", ((1, 1), (0, 1)), (False, False)), ONE, ()), NO_TEXT)

    def test_every_text(self):
        self.assert_meeting("", EVERY_TEXT, EVERY_TEXT, ())
        self.assert_meeting("a", EVERY_TEXT, ONE, ())
        self.assert_meeting("", EVERY_TEXT, ONE, (("a", ""),))

    def test_one_reader_twice(self):
        self.assert_meeting("a", ONE, ONE, ())
        self.assert_meeting("", ONE, ONE, (("a", ""),))

    def test_against_comes(self):
        chance = random.Random(90)
        for one, other in random_pairs(91, 250, most=3):
            kinds = random_kinds(chance, one[0])
            right = least_text(both(comes(one, kinds), comes(other, kinds)))
            self.assert_meeting(right, one, other, kinds)
            self.assertIs(plain_apart(one, other, kinds), right is None)

    def test_against_deeds_one_by_one(self):
        chance = random.Random(92)
        for one, other in random_pairs(93, 100, most=3):
            kinds = random_kinds(chance, one[0])
            first = descendants(kinds, texts_said(one, 4), 5)
            second = descendants(kinds, texts_said(other, 4), 5)
            common = sorted(first & second, key=lambda text: (len(text), text))
            if common:
                found = meeting(one, other, kinds)
                self.assertLessEqual((len(found), found), (len(common[0]), common[0]))

    def test_teller_is_right_whatever_is_done(self):
        chance = random.Random(94)
        told = 0
        for one, other in random_pairs(95, 300, most=3):
            kinds = random_kinds(chance, one[0])
            if not are_apart(one, other, kinds):
                continue
            told += 1
            found = teller(one, other, kinds)
            self.assertEqual(least(found), found)
            self.assertTrue(all(said(found, text) for text in descendants(kinds, texts_said(one, 4), 5)))
            self.assertFalse(any(said(found, text) for text in descendants(kinds, texts_said(other, 4), 5)))
        self.assertGreater(told, 50)

    def test_main_sentence(self):
        # A reader bears kinds exactly if its texts and the others are apart whatever is done by them.
        chance = random.Random(96)
        for reader in random_readers(97, 200, most=3):
            kinds = random_kinds(chance, reader[0], 2)
            others = reader[:2] + (tuple(not each for each in reader[2]),)
            self.assertIs(bears(reader, kinds), are_apart(reader, others, kinds))

    def test_two_hundred_stands(self):
        self.assert_meeting("a" * 150, line_of("a", 200, (150,)), line_of("a", 200, range(150, 199)), ())
        self.assert_meeting(None, line_of("a", 200, (150,)), line_of("a", 200, (149, 151)), (("aaa", ""),))
        self.assert_meeting("", round_of("ab", 8), round_of("ab", 25), ())

    def test_too_many(self):
        ends = ("abcd", ((0, 0, 0, 0),), (True,))
        for function in (are_apart, meeting, teller, most_kinds):
            self.assert_too_many(200, function, WILD, ends, WILD_KINDS)
            self.assert_too_many(200, function, ends, WILD, WILD_KINDS)
            # What comes of each has few stands, what comes of both too many.
            self.assert_too_many(200, function, round_of("ab", 3), round_of("ab", 67), ())
            self.assert_too_many(200, function, round_of("ab", 3), round_of("ab", 67), (("a", "b"),))

    def test_unlike_letters(self):
        for other in (("a", ((0,),), (False,)), ("bc", ((0, 0),), (False,)), ("abc", ((0, 0, 0),), (False,))):
            for function in (are_apart, meeting, teller, most_kinds):
                for kinds in ((), None, (("c", ""),), NINE):
                    self.assertRaises(Unlike, function, NO_TEXT, other, kinds)
                    self.assertRaises(Unlike, function, other, NO_TEXT, kinds)
                    self.assertRaises(BadReader, function, other, None, kinds)
                    self.assertRaises(BadReader, function, None, other, kinds)

    def test_wrong_values(self):
        for function in (are_apart, meeting, teller, most_kinds):
            for value in ANY:
                if value != EVERY_TEXT:
                    self.assertRaises(BadReader, function, value, value, value)
                    self.assertRaises(BadReader, function, NO_TEXT, value, value)
                if value not in ((), (("a", ""),)):
                    self.assertRaises(BadKinds, function, ONE, OTHER, value)
                    self.assertRaises(BadKinds, function, ONE, ONE, value)


class MostKinds(Parting):
    def test_example(self):
        self.assertEqual(most_kinds(ONE, OTHER, (("a", ""), ("b", ""))), (("a", ""),))

    def test_all_and_none_of_them(self):
        self.assertEqual(most_kinds(ONE, OTHER, ()), ())
        self.assertEqual(most_kinds(ONE, OTHER, (("a", "b"),)), ())
        self.assertEqual(most_kinds(ONE, OTHER, (("ab", "b"), ("a", ""))), (("ab", "b"), ("a", "")))
        self.assertEqual(most_kinds(NO_TEXT, EVERY_TEXT, NINE[:8]), NINE[:8])
        self.assertEqual(most_kinds(NO_TEXT, EVERY_TEXT, NINE[7::-1]), NINE[7::-1])

    def test_not_even_under_none(self):
        self.assertIsNone(most_kinds(ONE, ONE, ()))
        self.assertIsNone(most_kinds(ONE, ONE, (("a", ""),)))
        self.assertIsNone(most_kinds(EVERY_TEXT, OTHER, NINE[:8]))

    def test_places_in_the_lot(self):
        kinds = (("b", ""), ("a", ""))
        self.assertEqual(most_kinds(ONE, OTHER, kinds), (("b", ""),))
        kinds = (("a", "b"), ("b", ""), ("bb", "b"), ("a", ""))
        self.assertEqual(most_kinds(ONE, OTHER, kinds), (("b", ""), ("bb", "b")))
        kinds = (("a", ""), ("a", "b"), ("bb", "b"), ("b", ""))
        self.assertEqual(most_kinds(ONE, OTHER, kinds), (("a", ""), ("bb", "b")))

    def test_against_all_sublots(self):
        chance = random.Random(98)
        for one, other in random_pairs(99, 80, most=3):
            kinds = random_kinds(chance, one[0], 5)
            good = [places for many in range(len(kinds) + 1) for places in combinations(range(len(kinds)), many)
                    if plain_apart(one, other, tuple(kinds[place] for place in places))]
            right = min(good, key=lambda places: (-len(places), places), default=None)
            if right is not None:
                right = tuple(kinds[place] for place in right)
            self.assertEqual(most_kinds(one, other, kinds), right)

    def test_eight_and_nine_kinds(self):
        self.assertEqual(len(most_kinds(NO_TEXT, ONE, NINE[:8])), 8)
        self.assert_too_many(8, most_kinds, NO_TEXT, ONE, NINE)
        self.assert_too_many(8, most_kinds, ONE, ONE, NINE)
        self.assert_too_many(8, most_kinds, ONE, OTHER, NINE + (("ba", ""), ("ba", "a"), ("ba", "b")))
        self.assertRaises(BadKinds, most_kinds, ONE, OTHER, NINE + NINE[:1])
        self.assertRaises(BadKinds, most_kinds, ONE, OTHER, NINE + (("c", ""),))
        self.assertRaises(BadKinds, most_kinds, ONE, OTHER, NINE * 2)
        self.assertRaises(BadKinds, most_kinds, ONE, OTHER, list(NINE))


class CanMeet(Parting):
    def test_example(self):
        self.assertIs(can_meet("ab", (("a", ""),), "ab", "ba"), True)

    def test_one_text_twice(self):
        for text in ("", "a", "abab", "ab" * 20):
            for kinds in ((), (("a", ""),), (("b", "a"),)):
                self.assertIs(can_meet("ab", kinds, text, text), True)

    def test_no_kinds(self):
        self.assertIs(can_meet("ab", (), "a", "b"), False)
        self.assertIs(can_meet("ab", (), "", "b"), False)

    def test_the_one_comes_of_the_other(self):
        self.assertIs(can_meet("ab", (("a", "b"),), "aaa", "bab"), True)
        self.assertIs(can_meet("ab", (("aaa", "b"),), "aaa", "b"), True)
        self.assertIs(can_meet("ab", (("aaa", "b"),), "b", "aaa"), True)

    def test_in_a_longer_text_only(self):
        self.assertIs(can_meet("ab", (("", "a"), ("", "b")), "a", "b"), True)
        self.assertIs(can_meet("ab", (("", "a"),), "a", "b"), False)
        self.assertIs(can_meet("ab", (("", "b"),), "ab", "ba"), True)
        self.assertIs(can_meet("ab", (("", "b"),), "b" * 20 + "a" * 20, "a" * 20 + "b" * 20), True)
        self.assertIs(can_meet("ab", (("", "b"),), "a" * 20, "a" * 19), False)

    def test_in_a_shorter_text_only(self):
        self.assertIs(can_meet("ab", (("a", ""), ("b", "")), "a", "b"), True)
        self.assertIs(can_meet("ab", (("aa", ""), ("bbb", "")), "aa", "bbb"), True)
        self.assertIs(can_meet("ab", (("aa", ""), ("bbb", "")), "aa", "bb"), False)
        self.assertIs(can_meet("ab", (("aa", "b"), ("ba", "b")), "aaaa", "aba"), True)
        self.assertIs(can_meet("ab", (("aa", "b"), ("ba", "b")), "aaaa", "bbb"), False)
        self.assertIs(can_meet("ab", (("ab", "a"), ("ba", "a")), "abbbb", "bbba"), True)
        self.assertIs(can_meet("a", (("aaa", ""),), "a" * 40, "a"), True)
        self.assertIs(can_meet("a", (("aaa", ""),), "a" * 40, "aa"), False)

    def test_over_both(self):
        kinds = (("aa", ""), ("", "b"))
        self.assertIs(can_meet("ab", kinds, "aab", "bba"), False)
        self.assertIs(can_meet("ab", kinds, "aab", "baab"), True)
        self.assertIs(can_meet("ab", kinds, "aab", ""), True)

    def test_against_are_apart(self):
        chance = random.Random(100)
        for _ in range(200):
            letters = chance.choice(("a", "ab", "abc"))
            kinds = random_kinds(chance, letters)
            text, other = ("".join(chance.choices(letters, k=chance.randint(0, 4))) for _ in range(2))
            right = plain_apart(meant(text or "_", letters), meant(other or "_", letters), kinds)
            self.assertIs(can_meet(letters, kinds, text, other), not right)
            self.assertIs(are_apart(meant(text or "_", letters), meant(other or "_", letters), kinds), right)
            if descendants(kinds, [text], 5) & descendants(kinds, [other], 5):
                self.assertIs(right, False)

    def test_too_many(self):
        kinds = (("a", "b"), ("", "b"))
        text, other = "aabaaaaabbbbabababbaabbbbaababbbaaababaa", "babbaaabababbabbababaaaabaaabaaabaabbaab"
        self.assert_too_many(200, can_meet, "ab", kinds, text, other)
        self.assert_too_many(200, comes, meant(text), kinds)

    def test_wrong_values(self):
        for value in ANY:
            if value not in ("a", "ab"):
                self.assertRaises(BadLetters, can_meet, value, value, value, value)
            if value not in ((), (("a", ""),)):
                self.assertRaises(BadKinds, can_meet, "ab", value, value, value)
            if not (isinstance(value, str) and set(value) <= set("ab") and len(value) <= 40):
                self.assertRaises(BadText, can_meet, "ab", (), value, value)
                self.assertRaises(BadText, can_meet, "ab", (), "a", value)


class GreatestLot(Parting):
    def test_example(self):
        self.assertEqual(greatest_lot("ab", (("a", ""),), 2), ("aa", "ab", "bb"))

    def test_no_kinds(self):
        for letters, n in (("a", 5), ("ab", 5), ("abc", 3), ("abcd", 2), ("abcd", 0), ("ab", 1)):
            self.assertEqual(greatest_lot(letters, (), n), tuple(text for text in texts_of(letters, n)
                                                                 if len(text) == n))

    def test_all_can_meet(self):
        self.assertEqual(greatest_lot("ab", (("a", ""), ("b", "")), 5), ("aaaaa",))
        self.assertEqual(greatest_lot("abcd", (("a", "b"), ("c", "b"), ("d", "b")), 2), ("aa",))

    def test_no_letters(self):
        for letters in ("a", "ab", "abcd"):
            self.assertEqual(greatest_lot(letters, (("a", ""), ("", "a")), 0), ("",))

    def test_dropped_letters(self):
        # Without the a only the number of b tells; there are lots with other texts, this is the least.
        self.assertEqual(greatest_lot("ab", (("a", ""),), 5), ("aaaaa", "aaaab", "aaabb", "aabbb", "abbbb", "bbbbb"))
        self.assertEqual(greatest_lot("ab", (("a", "b"),), 3), ("aaa",))
        self.assertEqual(greatest_lot("abc", (("a", "b"),), 2), ("aa", "ac", "ca", "cc"))

    def test_the_greatest_is_not_the_first_come(self):
        # b can meet a and c, these cannot meet one another.
        kinds = (("b", "a"), ("b", "c"))
        self.assertEqual(greatest_lot("abc", kinds, 1), ("a", "c"))
        kinds = (("a", "b"), ("a", "c"), ("a", "d"))
        self.assertEqual(greatest_lot("abcd", kinds, 1), ("b", "c", "d"))
        self.assertEqual(greatest_lot("abcd", kinds, 2), tuple(a + b for a in "bcd" for b in "bcd"))

    def test_against_all_lots(self):
        chance = random.Random(101)
        for _ in range(150):
            letters, n = chance.choice((("a", 5), ("ab", 1), ("ab", 2), ("ab", 3), ("abc", 1), ("abc", 2), ("abcd", 1)))
            kinds = random_kinds(chance, letters)
            texts = [text for text in texts_of(letters, n) if len(text) == n]
            meet = {(one, other): can_meet(letters, kinds, one, other) for one in texts for other in texts}
            right = next(lot for many in range(len(texts), 0, -1) for lot in combinations(texts, many)
                         if not any(meet[pair] for pair in combinations(lot, 2)))
            self.assertEqual(greatest_lot(letters, kinds, n), right, (letters, kinds, n))

    def test_many_texts(self):
        chance = random.Random(102)
        for letters, n in (("ab", 5), ("ab", 4), ("abc", 3), ("abcd", 2)):
            for _ in range(8):
                kinds = random_kinds(chance, letters, 2)
                lot = greatest_lot(letters, kinds, n)
                self.assertEqual(list(lot), sorted(set(lot)))
                self.assertFalse(any(can_meet(letters, kinds, *pair) for pair in combinations(lot, 2)))
                # None can be added.
                for text in texts_of(letters, n):
                    if len(text) == n and text not in lot:
                        self.assertTrue(any(can_meet(letters, kinds, text, each) for each in lot))

    def test_more_than_thirty_two(self):
        for letters, n in (("abc", 4), ("abc", 5), ("abcd", 3), ("abcd", 4), ("abcd", 5)):
            self.assert_too_many(32, greatest_lot, letters, (), n)
        self.assertEqual(len(greatest_lot("ab", (), 5)), 32)

    def test_wrong_values(self):
        for value in ANY + (6, 5.0):
            if value not in ("a", "ab"):
                self.assertRaises(BadLetters, greatest_lot, value, value, value)
            if value not in ((), (("a", ""),)):
                self.assertRaises(BadKinds, greatest_lot, "abcd", value, value)
            if not isinstance(value, int) or isinstance(value, bool) or not 0 <= value <= 5:
                self.assertRaises(BadNumber, greatest_lot, "abcd", (), value)


if __name__ == "__main__":
    unittest.main()
