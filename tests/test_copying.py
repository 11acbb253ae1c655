"""[10] and [11]: comes, comes_in_order, comes_by, is_kept, are_orders_alike."""

import random
import unittest

from anyscribe.books import reader_of
from anyscribe.copying import are_orders_alike, comes, comes_by, comes_in_order, is_kept
from anyscribe.errors import BadKinds, BadLots, BadNumber, BadReader, TooMany
from anyscribe.readers import count, is_reader, least, less, listed
from anyscribe.ways import origin
from tests.scribes import (ancestors, are_one, descendants, led, plain_comes, plain_copy, plain_deeds, random_kinds,
                           texts_said)
from tests.support import (ANY, ascending, fewest_stands, is_numbered_as_come_to, line_of, random_reader,
                           random_readers, renumbered, round_of, said, texts_of)

NO_TEXT = ("ab", ((0, 0),), (False,))
EVERY_TEXT = ("ab", ((0, 0),), (True,))
# Eight stands between which nearly all lots of stands can be come to.
WILD = ("abcd", ((1, 2, 1, 3), (4, 1, 4, 1), (5, 4, 6, 3), (6, 5, 4, 1), (0, 2, 7, 3), (3, 7, 1, 0), (2, 7, 2, 6),
                 (7, 7, 3, 6)), (True, False, False, True, True, True, True, True))
WILD_KINDS = (("c", "b"), ("a", "b"))
ALL_DROPPED = (("a", ""), ("b", ""), ("c", ""), ("d", ""))


def meant(text, letters="ab"):
    return reader_of(letters, text)


class Copying(unittest.TestCase):
    def assert_least(self, reader):
        self.assertTrue(is_reader(reader))
        self.assertTrue(is_numbered_as_come_to(reader))
        self.assertEqual(fewest_stands(reader), len(reader[1]))

    def assert_too_many(self, function, *values):
        with self.assertRaises(TooMany) as caught:
            function(*values)
        self.assertEqual(caught.exception.most, 200)


class Comes(Copying):
    def test_example(self):
        self.assertEqual(comes(meant("a"), (("", "b"),)), ("ab", ((1, 0), (2, 1), (2, 2)), (False, True, False)))

    def test_letters_changed(self):
        self.assertEqual(comes(meant("aa"), (("a", "b"),)), meant(". ."))
        self.assertEqual(comes(meant("ab*"), (("b", "a"),)), meant("a .*"))
        self.assertEqual(comes(meant("a", "abc"), (("a", "b"), ("b", "c"))), meant(".", "abc"))
        self.assertEqual(comes(meant("c", "abc"), (("a", "b"), ("b", "c"))), meant("c", "abc"))

    def test_letters_dropped(self):
        self.assertEqual(comes(meant("aba"), (("a", ""),)), meant("a?ba?"))
        self.assertEqual(comes(meant("(ab)*"), (("b", ""),)), meant("(ab?)*"))
        self.assertEqual(comes(meant("abba"), (("a", ""), ("b", ""))), meant("a?b?b?a?"))

    def test_slips(self):
        self.assertEqual(comes(meant("_"), (("", "a"),)), meant("a*"))
        self.assertEqual(comes(meant("bb"), (("", "a"),)), meant("a*ba*ba*"))
        self.assertEqual(comes(meant("ab"), (("", "a"), ("", "b"))), meant(".* a .* b .*"))

    def test_three_letters(self):
        self.assertEqual(comes(meant("aaa"), (("aaa", "b"),)), meant("aaa | b"))
        self.assertEqual(comes(meant("aab aab"), (("aab", "a"),)), meant("aabaab | aaab | aaba | aa"))
        kinds = (("aba", "b"), ("aab", ""), ("bbb", "a"))
        self.assertEqual(texts_said(comes(meant("abaaba"), kinds), 7),
                         list(ascending(descendants(kinds, ["abaaba"], 6))))

    def test_l_made_by_other_deeds(self):
        # Brackets within one another vanish from within.
        kinds = (("ab", ""),)
        self.assertEqual(comes(meant("aabb"), kinds), meant("aabb | ab | _"))
        self.assertEqual(comes(meant("aaabbb a"), kinds), meant("aaabbba | aabba | aba | a"))
        self.assertTrue(said(comes(meant("a*b*"), kinds), ""))
        # What was slipped in can be part of an l.
        self.assertEqual(comes(meant("_"), (("", "a"), ("aaa", "b"))), EVERY_TEXT)
        self.assertEqual(comes(meant("_"), (("", "a"), ("aab", "b"))), meant("a*"))

    def test_longer_texts_on_the_way(self):
        # To get rid of an a, two b must come first, whatever the length.
        found = comes(meant("a" * 40, "ab"), (("", "b"), ("abb", "")))
        self.assertTrue(said(found, ""))
        self.assertTrue(said(found, "b" * 40))
        self.assertTrue(said(found, "a" * 40 + "b" * 100))
        self.assertFalse(said(found, "a" * 41))
        self.assertFalse(said(comes(meant("_"), (("abb", ""), ("ab", "b"))), "b"))

    def test_shorter_texts_on_the_way(self):
        found = comes(meant("ab"), (("ab", ""), ("", "b")))
        self.assertEqual(found, meant("b* (a b+)? b*"))

    def test_texts_longer_than_forty_letters(self):
        self.assertEqual(comes(line_of("a", 200, (198,)), (("aa", "a"),)), line_of("a", 200, range(1, 199)))
        found = comes(line_of("a", 200, (198,)), (("aaa", ""),))
        self.assertEqual([said(found, "a" * length) for length in range(200)],
                         [length % 3 == 0 and length <= 198 for length in range(200)])
        self.assertEqual(comes(round_of("a", 200, (199,)), (("aaa", ""),)), meant("a*", "a"))

    def test_no_kinds(self):
        for reader in random_readers(31, 40):
            self.assertEqual(comes(reader, ()), least(reader))

    def test_no_text_and_every_text(self):
        for kinds in ((), (("a", ""),), (("", "b"), ("bab", "a")), (("", "a"), ("", "b"))):
            self.assertEqual(comes(NO_TEXT, kinds), NO_TEXT)
            self.assertEqual(comes(EVERY_TEXT, kinds), EVERY_TEXT)
            self.assertEqual(comes(("ab", ((1, 1), (1, 0)), (False, False)), kinds), NO_TEXT)

    def test_stands_that_no_text_leads_to(self):
        reader = ("ab", ((0, 0), (0, 1), (1, 2)), (False, True, True))
        self.assertEqual(comes(reader, (("", "a"), ("ab", ""))), NO_TEXT)
        reader = ("ab", ((1, 2), (2, 1), (2, 2), (1, 1)), (False, True, False, True))
        self.assertEqual(comes(reader, (("", "b"),)), meant("b*ab*"))

    def test_forms_of_one_reader(self):
        kinds = (("ba", "b"), ("", "a"))
        reader = meant("ab (ab)* | b")
        right = comes(reader, kinds)
        for chance in map(random.Random, range(5)):
            order = list(range(1, len(reader[1])))
            chance.shuffle(order)
            self.assertEqual(comes(renumbered(reader, [0] + order), kinds), right)
            self.assertEqual(comes(reader, kinds[::-1]), right)

    def test_against_edges(self):
        chance = random.Random(32)
        for reader in random_readers(33, 250, ("a", "ab", "ab", "abc"), 4):
            kinds = random_kinds(chance, reader[0])
            found = comes(reader, kinds)
            self.assert_least(found)
            self.assertTrue(are_one(found, plain_comes(reader, kinds)), (reader, kinds))

    def test_against_deeds_one_by_one(self):
        chance = random.Random(34)
        for reader in random_readers(35, 120, ("a", "ab", "ab", "abc"), 3):
            kinds = random_kinds(chance, reader[0])
            found = comes(reader, kinds)
            # All that is told of the reader's texts by deeds, and nothing that does not come of one.
            for text in sorted(descendants(kinds, texts_said(reader, 4), 6)):
                self.assertTrue(said(found, text), (reader, kinds, text))
            for text in texts_said(found, 3):
                first, row = origin(reader, kinds, text)
                self.assertTrue(said(reader, first))
                self.assertEqual(led(kinds, first, row)[0], text)

    def test_nothing_new_comes_of_it(self):
        chance = random.Random(36)
        for reader in random_readers(37, 120, most=4):
            kinds = random_kinds(chance, reader[0])
            found = comes(reader, kinds)
            self.assertEqual(less(reader, found)[2], (False,))
            self.assertIs(is_kept(found, kinds), True)
            self.assertEqual(comes(found, kinds), found)
            for text in texts_said(found, 4):
                for deed in plain_deeds(kinds, text):
                    self.assertTrue(said(found, plain_copy(text, deed)))

    def test_two_hundred_stands(self):
        self.assertEqual(comes(line_of("ab", 200, (198,)), (("a", "b"),)), line_of("ab", 200, (198,)))
        self.assertEqual(comes(round_of("ab", 200), (("a", "b"),)), round_of("ab", 200))

    def test_few_stands_of_many_lots(self):
        # Some twenty thousand lots of stands and more say the same as a few others.
        for text, letters, kinds, many in ((".* a . . . . . .", "ab", (("", "a"),), 80),
                                           ("(aa. | b . . . . | . b . a)*", "ab", (("", "a"),), 37),
                                           ("(aa. | b . . . . | . b . a)*", "abc", (("aa", "c"),), 79)):
            reader = meant(text, letters)
            found = comes(reader, kinds)
            self.assertEqual(len(found[1]), many)
            self.assertIs(is_kept(found, kinds), True)
            self.assertEqual(less(reader, found)[2], (False,))
            for text in texts_said(found, 8 - 2 * len(letters)):
                self.assertEqual(led(kinds, *origin(reader, kinds, text))[0], text)

    def test_more_than_two_hundred_stands(self):
        self.assertGreater(fewest_stands(plain_comes(WILD, WILD_KINDS)), 200)
        self.assert_too_many(comes, WILD, WILD_KINDS)
        self.assert_too_many(is_kept, WILD, WILD_KINDS)
        self.assert_too_many(comes_in_order, WILD, (WILD_KINDS,))
        self.assert_too_many(are_orders_alike, WILD, WILD_KINDS, ())

    def test_far_more_than_two_hundred_stands(self):
        chance = random.Random(38)
        reader = random_reader(chance, "abcd", 200)
        self.assert_too_many(comes, reader, (("b", "a"),))
        self.assert_too_many(comes_by, reader, (("b", "a"),), 4)

    def test_wrong_values(self):
        for value in ANY:
            for kinds in ((), None, [("a", "")], (("c", ""),)):
                if value != EVERY_TEXT:
                    self.assertRaises(BadReader, comes, value, kinds)
            if value not in ((), (("a", ""),)):
                self.assertRaises(BadKinds, comes, EVERY_TEXT, value)


class ComesInOrder(Copying):
    def test_example(self):
        self.assertEqual(listed(comes_in_order(meant("a"), ((("a", "b"),), (("b", ""),))), 0), ("",))

    def test_no_scribe(self):
        for reader in random_readers(40, 40):
            self.assertEqual(comes_in_order(reader, ()), least(reader))
            self.assertEqual(comes_in_order(reader, ((), ())), least(reader))

    def test_order_tells(self):
        one, other = (("a", "b"),), (("b", ""),)
        self.assertEqual(comes_in_order(meant("a"), (one, other)), meant("a | b | _"))
        self.assertEqual(comes_in_order(meant("a"), (other, one)), meant("a | b"))
        self.assertEqual(comes_in_order(meant("a"), (other, one, other)), meant("a | b | _"))

    def test_four_scribes(self):
        lots = ((("a", "b"),), (("b", "c"),), (("c", "d"),), (("d", ""),))
        self.assertEqual(comes_in_order(meant("a", "abcd"), lots), meant("a | b | c | d | _", "abcd"))
        self.assertEqual(comes_in_order(meant("a", "abcd"), lots[::-1]), meant("a | b", "abcd"))
        self.assertEqual(comes_in_order(meant("a", "abcd"), lots[1:] + lots[:1]), meant("a | b", "abcd"))

    def test_against_comes(self):
        chance = random.Random(41)
        for reader in random_readers(42, 120, ("a", "ab", "ab", "abc"), 3):
            lots = tuple(random_kinds(chance, reader[0], 2) for _ in range(chance.randint(1, 4)))
            right = reader
            for kinds in lots:
                right = comes(right, kinds)
            self.assertEqual(comes_in_order(reader, lots), right)

    def test_more_than_two_hundred_stands_on_the_way(self):
        # What comes of the first scribe has too many stands, what comes of the second one has few.
        found = comes_in_order(WILD, (WILD_KINDS, ALL_DROPPED))
        self.assertEqual(found, ("abcd", ((0, 0, 0, 0),), (True,)))
        self.assert_too_many(comes_in_order, WILD, (WILD_KINDS, (("ddd", "d"),)))
        self.assert_too_many(comes_in_order, WILD, ((), WILD_KINDS, ()))
        found = comes_in_order(WILD, (WILD_KINDS, (("a", ""),), WILD_KINDS, ALL_DROPPED))
        self.assertEqual(found, ("abcd", ((0, 0, 0, 0),), (True,)))

    def test_wrong_lots(self):
        for lots in ([], [()], None, ((),) * 5, ((("a", ""),),) * 5, (("a", ""),), ((), None), ((), [("a", "")]),
                     ((("a", ""),), (("a", ""), ("a", ""))), ((("a", "a"),),), ((("c", ""),),), ((("aaaa", ""),),),
                     ((("a", "bb"),),), "", {}, 0, True, ((("a", ""),) * 13,)):
            self.assertRaises(BadLots, comes_in_order, EVERY_TEXT, lots)
            self.assertRaises(BadReader, comes_in_order, EVERY_TEXT[:2], lots)
        for value in ANY:
            if value != ():
                self.assertRaises(BadLots, comes_in_order, EVERY_TEXT, value)
        self.assertEqual(comes_in_order(EVERY_TEXT, ((),) * 4), EVERY_TEXT)


class ComesBy(Copying):
    def test_example(self):
        self.assertEqual(listed(comes_by(meant("a"), (("", "b"),), 1), 2), ("ab", "ba"))

    def test_counts(self):
        one = meant("aaaaaa")
        for many in range(5):
            self.assertEqual(count(comes_by(one, (("a", "b"),), many), 6), sum((1, 6, 15, 20, 15)[:many + 1]))
            found = comes_by(one, (("a", ""),), many)
            self.assertEqual([count(found, length) for length in range(8)],
                             [1 if 6 - many <= length <= 6 else 0 for length in range(8)])
            found = comes_by(meant("_"), (("", "a"),), many)
            self.assertEqual(found, meant("|".join(["_", "a", "aa", "aaa", "aaaa"][:many + 1])))

    def test_deeds_on_what_deeds_made(self):
        kinds = (("a", "b"), ("bb", "a"))
        texts = [set(texts_said(comes_by(meant("aaaa"), kinds, many), 4)) for many in range(5)]
        self.assertEqual(texts[0], {"aaaa"})
        self.assertEqual(texts[1] - texts[0], {"baaa", "abaa", "aaba", "aaab"})
        self.assertIn("aaa", texts[3])
        self.assertNotIn("aaa", texts[2])
        self.assertNotIn("aa", texts[4])
        self.assertIn("aba", texts[4])
        nested = meant("aaaabbbb")
        for many in range(5):
            found = comes_by(nested, (("ab", ""),), many)
            self.assertEqual(texts_said(found, 8), ["a" * left + "b" * left for left in range(4 - many, 5)])

    def test_no_deed(self):
        chance = random.Random(45)
        for reader in random_readers(46, 40):
            self.assertEqual(comes_by(reader, random_kinds(chance, reader[0]), 0), least(reader))
        self.assertEqual(comes_by(WILD, WILD_KINDS, 0), least(WILD))

    def test_no_kinds_and_no_text(self):
        for many in range(5):
            self.assertEqual(comes_by(meant("ab*"), (), many), meant("ab*"))
            self.assertEqual(comes_by(NO_TEXT, (("", "a"), ("a", "")), many), NO_TEXT)
            self.assertEqual(comes_by(EVERY_TEXT, (("", "a"), ("a", "")), many), EVERY_TEXT)

    def test_against_deeds_taken_back(self):
        chance = random.Random(47)
        for reader in random_readers(48, 300, ("a", "ab", "ab", "abc"), 3):
            many = chance.choice((1, 1, 2, 2, 3, 4))
            kinds = random_kinds(chance, reader[0], 3 if many < 3 else 1)
            try:
                found = comes_by(reader, kinds, many)
            except TooMany:
                continue
            self.assert_least(found)
            for text in texts_of(reader[0], 3 if many < 4 else 2):
                right = any(said(reader, first) for first in ancestors(kinds, text, many))
                self.assertIs(said(found, text), right, (reader, kinds, many, text))

    def test_one_deed_more(self):
        chance = random.Random(49)
        for reader in random_readers(50, 60, ("a", "ab"), 3):
            kinds = random_kinds(chance, reader[0], 2)
            found = [comes_by(reader, kinds, many) for many in range(4)]
            for many in range(3):
                self.assertEqual(comes_by(found[many], kinds, 1), found[many + 1])
                self.assertEqual(less(found[many], found[many + 1])[2], (False,))
            self.assertEqual(less(found[3], comes(reader, kinds))[2], (False,))

    def test_more_than_two_hundred_stands(self):
        reader = ("abc", ((0, 3, 2), (3, 2, 3), (0, 0, 1), (1, 1, 1)), (True, True, False, True))
        self.assert_least(comes_by(reader, (("ba", "c"),), 1))
        self.assert_too_many(comes_by, reader, (("ba", "c"),), 3)
        self.assert_too_many(comes_by, WILD, WILD_KINDS, 2)

    def test_wrong_numbers(self):
        for value in ANY + (5, True, False, -1, "1", (1,)):
            if not isinstance(value, int) or isinstance(value, bool) or not 0 <= value <= 4:
                self.assertRaises(BadNumber, comes_by, EVERY_TEXT, (), value)
                self.assertRaises(BadKinds, comes_by, EVERY_TEXT, None, value)
                self.assertRaises(BadReader, comes_by, None, None, value)


class Kept(Copying):
    def test_example(self):
        self.assertIs(is_kept(meant("a b*"), (("b", ""), ("", "b"))), False)

    def test_ordinary(self):
        self.assertIs(is_kept(meant("a b*"), (("b", ""),)), True)
        self.assertIs(is_kept(meant("a b*"), (("", "b"),)), False)
        self.assertIs(is_kept(meant("b*ab*"), (("b", ""), ("", "b"))), True)
        self.assertIs(is_kept(meant("a b*"), (("ab", "a"), ("bbb", "b"))), True)
        self.assertIs(is_kept(meant("a b*"), (("ab", ""),)), False)

    def test_kinds_that_change_nothing(self):
        self.assertIs(is_kept(meant("a*"), (("b", ""), ("ab", "b"), ("bab", ""))), True)
        self.assertIs(is_kept(meant("_"), (("a", ""), ("aaa", "b"))), True)
        self.assertIs(is_kept(meant("_"), (("", "b"),)), False)

    def test_all_texts_and_none(self):
        for kinds in ((), (("", "a"),), (("a", ""), ("bab", "a"))):
            self.assertIs(is_kept(EVERY_TEXT, kinds), True)
            self.assertIs(is_kept(NO_TEXT, kinds), True)

    def test_empty_lot(self):
        for reader in random_readers(51, 40):
            self.assertIs(is_kept(reader, ()), True)

    def test_many(self):
        chance = random.Random(52)
        for reader in random_readers(53, 150, ("a", "ab", "abc"), 3):
            kinds = random_kinds(chance, reader[0], 2)
            copies = [plain_copy(text, deed) for text in texts_said(reader, 6) for deed in plain_deeds(kinds, text)]
            kept = is_kept(reader, kinds)
            self.assertIs(kept, are_one(reader, plain_comes(reader, kinds)))
            if kept:
                self.assertTrue(all(said(reader, copy) for copy in copies))

    def test_wrong_values(self):
        self.assertRaises(BadReader, is_kept, None, None)
        self.assertRaises(BadKinds, is_kept, EVERY_TEXT, None)
        self.assertRaises(BadKinds, is_kept, EVERY_TEXT, (("c", ""),))


class Orders(Copying):
    def test_example(self):
        self.assertIs(are_orders_alike(meant("a"), (("a", "b"),), (("b", ""),)), False)

    def test_alike(self):
        self.assertIs(are_orders_alike(meant("ab"), (("a", ""),), (("b", ""),)), True)
        self.assertIs(are_orders_alike(meant("b"), (("a", "b"),), (("b", ""),)), True)
        self.assertIs(are_orders_alike(EVERY_TEXT, (("a", "b"),), (("b", ""),)), True)
        self.assertIs(are_orders_alike(NO_TEXT, (("a", "b"),), (("b", ""),)), True)
        self.assertIs(are_orders_alike(meant("a"), (("a", "b"),), ()), True)
        self.assertIs(are_orders_alike(meant("a"), (("a", "b"),), (("a", "b"),)), True)
        self.assertIs(are_orders_alike(meant("a"), (), ()), True)

    def test_unlike(self):
        self.assertIs(are_orders_alike(meant("a"), (("b", ""),), (("a", "b"),)), False)
        self.assertIs(are_orders_alike(meant("_"), (("", "a"),), (("aaa", "b"),)), False)
        self.assertIs(are_orders_alike(meant("aab"), (("ab", "b"),), (("ab", ""),)), False)

    def test_many(self):
        chance = random.Random(54)
        for reader in random_readers(55, 100, ("a", "ab", "abc"), 3):
            one, other = random_kinds(chance, reader[0], 2), random_kinds(chance, reader[0], 2)
            right = comes(comes(reader, one), other) == comes(comes(reader, other), one)
            self.assertIs(are_orders_alike(reader, one, other), right)
            self.assertIs(are_orders_alike(reader, other, one), right)

    def test_wrong_values(self):
        wrong = (("a", ""), ("a", ""))
        self.assertRaises(BadReader, are_orders_alike, None, wrong, wrong)
        self.assertRaises(BadKinds, are_orders_alike, EVERY_TEXT, wrong, wrong)
        self.assertRaises(BadKinds, are_orders_alike, EVERY_TEXT, (), wrong)
        self.assertRaises(BadKinds, are_orders_alike, EVERY_TEXT, wrong, ())
        # The wrong lot is ahead of what would come of the right one.
        self.assertRaises(BadKinds, are_orders_alike, WILD, WILD_KINDS, wrong)


if __name__ == "__main__":
    unittest.main()
