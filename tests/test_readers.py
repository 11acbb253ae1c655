"""[4]: is_reader, verdict, stands_come_to."""

import unittest

from anyscribe.errors import BadReader, BadText
from anyscribe.readers import is_reader, stands_come_to, verdict
from tests.support import A_MANY_B, A_ONE_B, random_readers, round_of, said, texts_of

FALSE, TRUE = False, True


class IsReader(unittest.TestCase):
    def test_right_ones(self):
        for reader in (A_MANY_B, A_ONE_B, ("a", ((0,),), (FALSE,)), ("abcd", ((0, 0, 0, 0),), (TRUE,)),
                       ("a", ((0,), (0,)), (TRUE, FALSE)), round_of("ab", 200), round_of("abcd", 199)):
            self.assertIs(is_reader(reader), True)

    def test_how_many_stands(self):
        self.assertIs(is_reader(round_of("ab", 1)), True)
        self.assertIs(is_reader(round_of("ab", 200)), True)
        self.assertIs(is_reader(round_of("ab", 201)), False)
        self.assertIs(is_reader(("ab", (), ())), False)

    def test_next_stands(self):
        for stand in (-1, 2, 3, 200, 10 ** 30, -10 ** 30, None, TRUE, FALSE, "0", (0,), [0], {}):
            self.assertIs(is_reader(("ab", ((0, 1), (stand, 0)), (TRUE, FALSE))), False)
            self.assertIs(is_reader(("ab", ((0, stand), (1, 0)), (TRUE, FALSE))), False)
        self.assertIs(is_reader(("a", ((199,),) * 200, (TRUE,) * 200)), True)
        self.assertIs(is_reader(("a", ((200,),) * 200, (TRUE,) * 200)), False)

    def test_rows(self):
        for row in ((), (0,), (0, 0, 0), [0, 0], None, 0, TRUE, "00", {}, {0: 0, 1: 0}, ((0, 0),)):
            self.assertIs(is_reader(("ab", (row,), (TRUE,))), False)
            self.assertIs(is_reader(("ab", ((0, 1), row), (TRUE, FALSE))), False)
        for rows in ([(0, 0)], {(0, 0): 0}, None, 1, "ab", (0, 0), ((0, 0), (0, 0)), ()):
            self.assertIs(is_reader(("ab", rows, (TRUE,))), False)

    def test_yes(self):
        for yes in ((), (TRUE, FALSE, TRUE), (TRUE,), [TRUE, FALSE], (1, 0), (TRUE, 0), (1, FALSE), (TRUE, None),
                    ("", TRUE), None, TRUE, 3, "ab", {0: TRUE, 1: TRUE}, (TRUE, ()), ([], {})):
            self.assertIs(is_reader(("ab", ((0, 1), (1, 0)), yes)), False)

    def test_letters(self):
        for letters in ("", "ba", "aa", "AB", "a1", "abc", "a", ("a", "b"), ["a", "b"], None, 2, TRUE):
            self.assertIs(is_reader((letters, ((0, 0),), (TRUE,))), False)

    def test_forms(self):
        for value in (A_MANY_B[:2], A_MANY_B + ((),), list(A_MANY_B), (), "abc", None, {}, 3, TRUE, (None,) * 3):
            self.assertIs(is_reader(value), False)


class Verdict(unittest.TestCase):
    def test_example(self):
        self.assertIs(verdict(A_MANY_B, "abb"), True)
        self.assertIs(verdict(A_ONE_B, "abb"), False)

    def test_begins_at_the_stand_0(self):
        self.assertIs(verdict(A_MANY_B, ""), False)
        self.assertIs(verdict(("a", ((1,), (0,)), (TRUE, FALSE)), ""), True)

    def test_rows_are_in_the_order_of_the_letters(self):
        reader = ("bdz", ((1, 2, 3),) * 4, (FALSE, TRUE, FALSE, TRUE))
        self.assertEqual([verdict(reader, text) for text in ("", "b", "d", "z", "zd", "dz")],
                         [False, True, False, True, False, True])

    def test_ends_at_the_last_stand(self):
        for many in (2, 7, 200):
            for length in range(41):
                self.assertIs(verdict(round_of("a", many, (3, 40)), "a" * length), length % many in (3, 40))

    def test_many_readers(self):
        for reader in random_readers(4, 60):
            for text in texts_of(reader[0], 4):
                self.assertIs(verdict(reader, text), said(reader, text))

    def test_errors(self):
        self.assertRaises(BadText, verdict, A_MANY_B, "abc")
        self.assertRaises(BadText, verdict, A_MANY_B, "a" * 41)
        self.assertRaises(BadReader, verdict, round_of("ab", 201), "abc")


class StandsComeTo(unittest.TestCase):
    def test_all(self):
        self.assertEqual(stands_come_to(A_MANY_B), (0, 1, 2))
        self.assertEqual(stands_come_to(round_of("ab", 200)), tuple(range(200)))
        self.assertEqual(stands_come_to(("a", ((0,),), (FALSE,))), (0,))

    def test_stands_that_no_text_leads_to(self):
        self.assertEqual(stands_come_to(("a", ((0,), (0,)), (TRUE, FALSE))), (0,))
        self.assertEqual(stands_come_to(("ab", ((3, 0), (1, 2), (3, 3), (0, 3)), (TRUE,) * 4)), (0, 3))

    def test_ascending(self):
        self.assertEqual(stands_come_to(("ab", ((4, 2), (0, 0), (1, 1), (3, 0), (4, 4)), (TRUE,) * 5)), (0, 1, 2, 4))

    def test_many_readers(self):
        for reader in random_readers(5, 100, most=6):
            come = set()
            for text in texts_of(reader[0], 5):
                stand = 0
                for letter in text:
                    stand = reader[1][stand][reader[0].index(letter)]
                come.add(stand)
            self.assertEqual(stands_come_to(reader), tuple(sorted(come)))


if __name__ == "__main__":
    unittest.main()
