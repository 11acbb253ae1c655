"""[5]: least, are_alike, parting, both, either, less."""

import random
import unittest

from anyscribe.errors import BadReader, TooMany, Unlike
from anyscribe.readers import are_alike, both, either, is_reader, least, less, parting, verdict
from tests.support import (A_MANY_B, A_ONE_B, fewest_stands, is_numbered_as_come_to, line_of, random_pairs,
                           random_reader, random_readers, renumbered, round_of, said, texts_of)

NO_TEXT = ("ab", ((0, 0),), (False,))
EVERY_TEXT = ("ab", ((0, 0),), (True,))


class Least(unittest.TestCase):
    def test_example(self):
        self.assertEqual(least(("a", ((1,), (0,)), (True, True))), ("a", ((0,),), (True,)))

    def test_least_already(self):
        for reader in (A_MANY_B, A_ONE_B, NO_TEXT, EVERY_TEXT, round_of("ab", 200), line_of("abcd", 200, (199,))):
            self.assertEqual(least(reader), reader)

    def test_numbered_as_come_to(self):
        self.assertEqual(least(renumbered(A_MANY_B, (0, 2, 1))), A_MANY_B)
        self.assertEqual(least(("ab", ((2, 1), (1, 2), (1, 1)), (False, False, True))),
                         ("ab", ((1, 2), (2, 2), (2, 1)), (False, True, False)))
        chance = random.Random(6)
        for many in (5, 40, 200):
            reader = least(random_reader(chance, "abc", many))
            order = list(range(1, len(reader[1])))
            chance.shuffle(order)
            self.assertEqual(least(renumbered(reader, [0] + order)), reader)

    def test_stands_that_no_text_leads_to(self):
        self.assertEqual(least(("ab", ((0, 0), (0, 1)), (False, True))), NO_TEXT)
        self.assertEqual(least(("ab", ((2, 2), (0, 0), (2, 2)), (True, False, True))), EVERY_TEXT)

    def test_many_readers(self):
        for reader in random_readers(7, 300):
            found = least(reader)
            self.assertTrue(is_reader(found))
            self.assertTrue(is_numbered_as_come_to(found))
            self.assertEqual(len(found[1]), fewest_stands(reader))
            for text in texts_of(reader[0], 5):
                self.assertIs(said(found, text), said(reader, text))

    def test_classes_parted_again_and_again(self):
        # A round whose yes stands repeat falls into the smaller round; one odd stand keeps it whole.
        self.assertEqual(least(round_of("ab", 200, range(0, 200, 5))), round_of("ab", 5))
        odd = round_of("ab", 200, list(range(0, 200, 5)) + [7])
        self.assertEqual(least(odd), odd)
        self.assertEqual(least(line_of("a", 200, range(100, 200))), line_of("a", 101, (100,)))


class AreAlike(unittest.TestCase):
    def test_ordinary(self):
        self.assertIs(are_alike(A_MANY_B, A_MANY_B), True)
        self.assertIs(are_alike(A_MANY_B, A_ONE_B), False)
        self.assertIs(are_alike(A_MANY_B, renumbered(A_MANY_B, (0, 2, 1))), True)
        self.assertIs(are_alike(EVERY_TEXT, NO_TEXT), False)
        self.assertIs(are_alike(round_of("ab", 3, (0, 1, 2)), EVERY_TEXT), True)

    def test_parted_by_a_long_text_alone(self):
        self.assertIs(are_alike(line_of("ab", 200, ()), line_of("ab", 200, (199,))), False)
        self.assertIs(are_alike(round_of("a", 199), line_of("a", 200, (0,))), False)

    def test_unlike_letters(self):
        for other in (("a", ((0,),), (False,)), ("bc", ((0, 0),), (False,)), ("abc", ((0, 0, 0),), (False,))):
            for function in (are_alike, parting, both, either, less):
                self.assertRaises(Unlike, function, NO_TEXT, other)
                self.assertRaises(Unlike, function, other, NO_TEXT)
                self.assertRaises(BadReader, function, other, None)
                self.assertRaises(BadReader, function, None, other)


class Parting(unittest.TestCase):
    def test_example(self):
        self.assertEqual(parting(A_MANY_B, A_ONE_B), "abb")
        self.assertEqual(parting(A_ONE_B, A_MANY_B), "abb")

    def test_alike(self):
        self.assertIsNone(parting(A_MANY_B, renumbered(A_MANY_B, (0, 2, 1))))
        self.assertIsNone(parting(round_of("ab", 4, (0, 2)), round_of("ab", 6, (0, 2, 4))))

    def test_empty_text(self):
        self.assertEqual(parting(EVERY_TEXT, NO_TEXT), "")

    def test_least_of_one_length(self):
        one = ("abc", ((0, 1, 2), (0, 0, 0), (0, 0, 0)), (False, True, True))
        self.assertEqual(parting(one, ("abc", ((0, 0, 0),), (False,))), "b")
        other = ("abc", ((0, 1, 0), (0, 0, 0)), (False, True))
        self.assertEqual(parting(one, other), "c")

    def test_longer_than_forty_letters(self):
        self.assertEqual(parting(line_of("ab", 200, ()), line_of("ab", 200, (199,))), "a" * 199)
        self.assertEqual(parting(round_of("a", 199), line_of("a", 200, (0,))), "a" * 199)
        # The one says yes to 198, 397, .. letters, the other to 198, 398, ..
        self.assertEqual(parting(round_of("a", 199, (198,)), round_of("a", 200, (198,))), "a" * 397)

    def test_many_pairs(self):
        for one, other in random_pairs(8, 200, most=4):
            right = next((text for text in texts_of(one[0], 6) if said(one, text) != said(other, text)), None)
            self.assertEqual(parting(one, other), right)
            self.assertIs(are_alike(one, other), right is None)


class Joined(unittest.TestCase):
    def test_example(self):
        self.assertEqual(both(A_MANY_B, A_ONE_B), A_ONE_B)
        self.assertEqual(either(A_MANY_B, A_ONE_B), A_MANY_B)
        self.assertEqual(verdict(less(A_MANY_B, A_ONE_B), "abb"), True)
        self.assertEqual(less(A_ONE_B, A_MANY_B), NO_TEXT)

    def test_with_no_text_and_every_text(self):
        self.assertEqual(both(A_MANY_B, EVERY_TEXT), A_MANY_B)
        self.assertEqual(both(A_MANY_B, NO_TEXT), NO_TEXT)
        self.assertEqual(either(A_MANY_B, EVERY_TEXT), EVERY_TEXT)
        self.assertEqual(either(A_MANY_B, NO_TEXT), A_MANY_B)
        self.assertEqual(less(A_MANY_B, NO_TEXT), A_MANY_B)
        self.assertEqual(less(A_MANY_B, EVERY_TEXT), NO_TEXT)
        self.assertEqual(less(EVERY_TEXT, A_MANY_B), ("ab", ((1, 2), (2, 1), (2, 2)), (True, False, True)))

    def test_many_pairs(self):
        for one, other in random_pairs(9, 200):
            found = (both(one, other), either(one, other), less(one, other))
            for reader in found:
                self.assertTrue(is_reader(reader))
                self.assertEqual(len(reader[1]), fewest_stands(reader))
                self.assertTrue(is_numbered_as_come_to(reader))
            for text in texts_of(one[0], 5):
                first, second = said(one, text), said(other, text)
                self.assertEqual([said(reader, text) for reader in found],
                                 [first and second, first or second, first and not second])

    def assert_too_many(self, function, one, other):
        with self.assertRaises(TooMany) as caught:
            function(one, other)
        self.assertEqual(caught.exception.most, 200)

    def test_two_hundred_stands(self):
        self.assertEqual(both(round_of("ab", 8), round_of("ab", 25)), round_of("ab", 200))
        right = round_of("ab", 200, [at for at in range(200) if at % 8 == 0 or at % 25 == 0])
        self.assertEqual(either(round_of("ab", 8), round_of("ab", 25)), right)
        right = round_of("ab", 200, [at for at in range(200) if at % 8 == 0 and at % 25 > 0])
        self.assertEqual(less(round_of("ab", 8), round_of("ab", 25)), right)

    def test_more_than_two_hundred_stands(self):
        for function in (both, either, less):
            self.assert_too_many(function, round_of("ab", 3), round_of("ab", 67))
            self.assert_too_many(function, round_of("abcd", 199), round_of("abcd", 200))

    def test_more_pairs_than_stands(self):
        # The pairs are many, the stands of the least reader few.
        self.assertEqual(both(round_of("ab", 199, ()), round_of("ab", 200)), NO_TEXT)
        self.assertEqual(either(round_of("ab", 199, range(199)), round_of("ab", 200)), EVERY_TEXT)
        self.assertEqual(less(round_of("ab", 200, (0, 100)), round_of("ab", 199, ())), round_of("ab", 100))


if __name__ == "__main__":
    unittest.main()
