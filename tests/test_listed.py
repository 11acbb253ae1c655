"""[6]: least_text, count, listed, is_endless."""

import unittest

from anyscribe.errors import BadNumber, BadReader, TooMany
from anyscribe.readers import both, count, is_endless, least_text, less, listed
from tests.support import A_MANY_B, A_ONE_B, line_of, random_readers, round_of, said, texts_of

NO_TEXT = ("ab", ((0, 0),), (False,))
EVERY_TEXT = ("ab", ((0, 0),), (True,))
EMPTY_TEXT = ("ab", ((1, 1), (1, 1)), (True, False))
# A yes stand with a loop that no text leads to.
LOST_LOOP = ("ab", ((1, 1), (1, 1), (2, 2)), (True, False, True))
# A loop that leads to no yes, and a yes stand behind no loop.
VAIN_LOOP = ("ab", ((1, 2), (3, 3), (2, 2), (3, 2)), (False, True, False, False))


class LeastText(unittest.TestCase):
    def test_ordinary(self):
        self.assertEqual(least_text(A_MANY_B), "a")
        self.assertEqual(least_text(less(A_MANY_B, A_ONE_B)), "abb")
        self.assertEqual(least_text(EMPTY_TEXT), "")
        self.assertEqual(least_text(EVERY_TEXT), "")
        self.assertEqual(least_text(VAIN_LOOP), "a")

    def test_none(self):
        self.assertIsNone(least_text(NO_TEXT))
        self.assertIsNone(least_text(round_of("abc", 200, ())))
        self.assertIsNone(least_text(("ab", ((0, 0), (1, 1)), (False, True))))

    def test_by_length_first(self):
        # It says yes to aa and to b.
        self.assertEqual(least_text(("ab", ((1, 2), (2, 3), (3, 3), (3, 3)), (False, False, True, False))), "b")

    def test_stands_in_another_order(self):
        self.assertEqual(least_text(("ab", ((3, 2), (1, 1), (1, 1), (2, 1)), (False, True, False, False))), "ab")

    def test_long(self):
        self.assertEqual(least_text(line_of("ab", 200, (199,))), "a" * 199)

    def test_many_readers(self):
        for reader in random_readers(10, 200, most=5):
            right = next((text for text in texts_of(reader[0], 5) if said(reader, text)), None)
            self.assertEqual(least_text(reader), right)


class Count(unittest.TestCase):
    def test_ordinary(self):
        self.assertEqual([count(A_MANY_B, n) for n in (0, 1, 2, 3, 40)], [0, 1, 1, 1, 1])
        self.assertEqual([count(A_ONE_B, n) for n in (0, 1, 2, 3, 40)], [0, 1, 1, 0, 0])
        self.assertEqual([count(NO_TEXT, n) for n in (0, 40)], [0, 0])
        self.assertEqual([count(EMPTY_TEXT, n) for n in (0, 1, 40)], [1, 0, 0])
        self.assertEqual([count(LOST_LOOP, n) for n in (0, 1, 40)], [1, 0, 0])

    def test_many_texts(self):
        self.assertEqual(count(("abcd", ((0, 0, 0, 0),), (True,)), 40), 4 ** 40)
        self.assertEqual(count(("abcd", ((1, 0, 0, 0), (0, 1, 1, 1)), (True, False)), 40), (4 ** 40 + 2 ** 40) // 2)
        self.assertEqual(count(EVERY_TEXT, 0), 1)

    def test_numbers(self):
        for n in (-1, 41, True, False, None, 10 ** 30, -10 ** 30, "3", "", (3,), [3], {}):
            self.assertRaises(BadNumber, count, A_MANY_B, n)
            self.assertRaises(BadNumber, listed, A_MANY_B, n)
            self.assertRaises(BadReader, count, None, n)
            self.assertRaises(BadReader, listed, None, n)

    def test_many_readers(self):
        for reader in random_readers(11, 100):
            for n in range(6):
                right = tuple(text for text in texts_of(reader[0], n) if len(text) == n and said(reader, text))
                self.assertEqual(count(reader, n), len(right))
                self.assertEqual(listed(reader, n), right)


class Listed(unittest.TestCase):
    def test_ordinary(self):
        self.assertEqual(listed(A_MANY_B, 2), ("ab",))
        self.assertEqual(listed(A_MANY_B, 0), ())
        self.assertEqual(listed(EMPTY_TEXT, 0), ("",))
        self.assertEqual(listed(EMPTY_TEXT, 1), ())
        self.assertEqual(listed(NO_TEXT, 40), ())
        self.assertEqual(listed(EVERY_TEXT, 2), ("aa", "ab", "ba", "bb"))

    def test_forty_letters(self):
        self.assertEqual(listed(A_MANY_B, 40), ("a" + "b" * 39,))
        # The texts with one b: few among all beginnings.
        one_b = ("ab", ((0, 1), (1, 2), (2, 2)), (False, True, False))
        self.assertEqual(listed(one_b, 40), tuple("a" * (39 - at) + "b" + "a" * at for at in range(40)))

    def test_a_late_yes(self):
        late = both(line_of("abcd", 41, (40,)), ("abcd", ((0, 1, 1, 1), (1, 1, 1, 1)), (True, False)))
        self.assertEqual(listed(late, 40), ("a" * 40,))

    def test_five_hundred(self):
        # Of two letters 512 texts of 9 letters; less the least 12 or 11 of them.
        for lost in (12, 11):
            reader = less(line_of("ab", 11, (9,)), first_ones(lost))
            self.assertEqual(count(reader, 9), 512 - lost)
            if lost == 12:
                self.assertEqual(listed(reader, 9), tuple(texts_of("ab", 9))[-500:])
            else:
                with self.assertRaises(TooMany) as caught:
                    listed(reader, 9)
                self.assertEqual(caught.exception.most, 500)


def first_ones(many):
    """The reader of the least so many texts of a, b with 9 letters, as a tree."""
    texts = [text for text in texts_of("ab", 9) if len(text) == 9][:many]
    stands = [""] + sorted({text[:at] for text in texts for at in range(1, 10)})
    place = {stand: at for at, stand in enumerate(stands)}
    dead = len(stands)
    rows = tuple(tuple(place.get(stand + letter, dead) for letter in "ab") for stand in stands) + ((dead, dead),)
    return ("ab", rows, tuple(stand in texts for stand in stands) + (False,))


class IsEndless(unittest.TestCase):
    def test_ordinary(self):
        self.assertIs(is_endless(A_MANY_B), True)
        self.assertIs(is_endless(A_ONE_B), False)
        self.assertIs(is_endless(EVERY_TEXT), True)
        self.assertIs(is_endless(("a", ((0,),), (True,))), True)

    def test_none_and_one(self):
        self.assertIs(is_endless(NO_TEXT), False)
        self.assertIs(is_endless(EMPTY_TEXT), False)

    def test_loops_in_vain(self):
        self.assertIs(is_endless(LOST_LOOP), False)
        self.assertIs(is_endless(VAIN_LOOP), False)

    def test_loop_of_stands_that_say_no(self):
        # a* b: the loop is at a stand that says no.
        self.assertIs(is_endless(("ab", ((0, 1), (2, 2), (2, 2)), (False, True, False))), True)
        # All texts but the empty one: from each stand a text leads to yes.
        self.assertIs(is_endless(("a", ((1,), (1,)), (False, True))), True)

    def test_long(self):
        self.assertIs(is_endless(round_of("ab", 200)), True)
        self.assertIs(is_endless(line_of("ab", 200, range(199))), False)
        self.assertIs(is_endless(line_of("ab", 200, (199,))), True)

    def test_many_readers(self):
        for reader in random_readers(12, 300):
            many = len(reader[1])
            right = any(count(reader, n) > 0 for n in range(many, 2 * many + 1))
            self.assertIs(is_endless(reader), right)


if __name__ == "__main__":
    unittest.main()
