"""[7]: reader_of."""

import random
import unittest

from anyscribe.books import reader_of
from anyscribe.errors import (BadLetters, InvalidText, NoLetter, NotText, ScribeError, TooMany, Unknown)
from anyscribe.readers import both, count, is_reader, least_text, less, listed, parting, verdict
from tests.plain import expression_refused_at, random_pieces, spread, texts_meant, tree_of, tree_of_text
from tests.support import ANY, fewest_stands, is_numbered_as_come_to, round_of, said, texts_of

LONG = "a" * 40


def meant(text, letters="ab", longest=4):
    """The texts of a few letters to which the reader of an expression says yes."""
    reader = reader_of(letters, text)
    return " ".join(each or "_" for each in texts_of(letters, longest) if said(reader, each))


class Examples(unittest.TestCase):
    def test_books(self):
        self.assertEqual(listed(reader_of("ab", "ab* | (ab)*"), 2), ("ab",))
        self.assertEqual(listed(reader_of("abc", ". ? - _"), 1), ("a", "b", "c"))
        self.assertEqual(listed(reader_of("ab", "(a | b)* & . ."), 2), ("aa", "ab", "ba", "bb"))

    def test_readers(self):
        one, other = reader_of("ab", "a b*"), reader_of("ab", "a b?")
        self.assertEqual(one, ("ab", ((1, 2), (2, 1), (2, 2)), (False, True, False)))
        self.assertEqual([verdict(one, "abb"), least_text(one), count(one, 3)], [True, "a", 1])
        self.assertEqual(parting(one, other), "abb")
        self.assertEqual(both(one, other), other)
        self.assertEqual(least_text(less(one, other)), "abb")


class Meanings(unittest.TestCase):
    def test_words(self):
        self.assertEqual(meant("ab"), "ab")
        self.assertEqual(meant("a b"), "ab")
        self.assertEqual(meant("ab ba"), "abba")
        self.assertEqual(meant("b", "abcd"), "b")
        self.assertEqual(listed(reader_of("a", LONG), 40), (LONG,))
        self.assertEqual(reader_of("a", "a"), ("a", ((1,), (2,), (2,)), (False, True, False)))

    def test_signs(self):
        self.assertEqual(meant("_"), "_")
        self.assertEqual(meant("."), "a b")
        self.assertEqual(meant("..", "ac"), "aa ac ca cc")
        self.assertEqual(meant("_ a _"), "a")
        self.assertEqual(meant("_*"), "_")
        self.assertEqual(reader_of("ab", "_"), ("ab", ((1, 1), (1, 1)), (True, False)))
        self.assertEqual(reader_of("ab", "."), ("ab", ((1, 1), (2, 2), (2, 2)), (False, True, False)))

    def test_marks_take_the_last_letter_of_a_word(self):
        self.assertEqual(meant("ab*"), "a ab abb abbb")
        self.assertEqual(meant("ab *"), "a ab abb abbb")
        self.assertEqual(meant("ab+"), "ab abb abbb")
        self.assertEqual(meant("ab?"), "a ab")
        self.assertEqual(meant("a ba*"), "ab aba abaa")
        self.assertEqual(meant("aab*a"), "aaa aaba")

    def test_marks_take_what_stands_in_brackets(self):
        self.assertEqual(meant("(ab)*"), "_ ab abab")
        self.assertEqual(meant("(ab)+"), "ab abab")
        self.assertEqual(meant("(ab)?"), "_ ab")
        self.assertEqual(meant("(a | bb)+", longest=3), "a aa bb aaa abb bba")
        self.assertEqual(meant("((ab))*"), "_ ab abab")

    def test_marks_take_signs(self):
        self.assertEqual(meant(".*", longest=1), "_ a b")
        self.assertEqual(meant(". + a", longest=2), "aa ba")
        self.assertEqual(meant("a.?", longest=2), "a aa ab")

    def test_several_marks(self):
        self.assertEqual(meant("ab+?"), "a ab abb abbb")
        self.assertEqual(meant("ab?+"), "a ab abb abbb")
        self.assertEqual(meant("b**", longest=2), "_ b bb")
        self.assertEqual(meant("b?*?+", longest=2), "_ b bb")
        self.assertEqual(meant("b++", longest=2), "b bb")
        self.assertEqual(meant("b??", longest=2), "_ b")
        self.assertEqual(meant("(ab) ? +"), "_ ab abab")

    def test_marks_on_texts_that_begin_like_others(self):
        self.assertEqual(meant("(a | ab)* b", longest=3), "b ab aab abb")
        self.assertEqual(meant("(_ | a)+", longest=2), "_ a aa")
        self.assertEqual(meant("(a - a)*"), "_")
        self.assertEqual(meant("(a - a)+"), "")
        self.assertEqual(meant("(a - a)?"), "_")
        self.assertEqual(meant("(a - a) b | b (a - a)"), "")

    def test_any_times_does_not_begin_with_an_empty_text_only(self):
        # Behind the first letter no more yes may come of having begun.
        self.assertEqual(meant("(ab)* | b", longest=2), "_ b ab")
        self.assertEqual(meant("(a b a)*", longest=3), "_ aba")

    def test_how_signs_bind(self):
        self.assertEqual(meant("a | b & b"), "a b")
        self.assertEqual(meant("a & b | b"), "b")
        self.assertEqual(meant("a | b - b"), "a")
        self.assertEqual(meant("(a | b) - b"), "a")
        self.assertEqual(meant("a b | b"), "b ab")
        self.assertEqual(meant("a (b | b)"), "ab")
        self.assertEqual(meant(". b - b ."), "ab")
        self.assertEqual(meant(". & a*"), "a")
        self.assertEqual(meant("(. &a)*", longest=2), "_ a aa")

    def test_and_and_less_are_joined_from_the_left(self):
        self.assertEqual(meant(". - a - b"), "")
        self.assertEqual(meant(". - (a - b)"), "b")
        self.assertEqual(meant("a - b & b"), "")
        self.assertEqual(meant("a - (b & b)"), "a")
        self.assertEqual(meant(". - b & ."), "a")
        self.assertEqual(meant("a & . - a"), "")
        self.assertEqual(meant("a & . - b"), "a")

    def test_blanks_and_line_ends(self):
        right = reader_of("ab", "(a|b)*&a b?-_|ab.")
        for text in ("( a | b ) * & a b ? - _ | ab .", "\n(a\n|\nb)\n*\n&a\nb ?- _ |ab .\n", "  (a|b)*&a b?-_|ab.  "):
            self.assertEqual(reader_of("ab", text), right)

    def test_other_letters(self):
        self.assertEqual(meant("x z? | y", "xyz", 2), "x y xz")
        self.assertEqual(meant(". m", "kmtz", 2), "km mm tm zm")
        self.assertEqual(meant("kb", "bk", 2), "kb")


class Brackets(unittest.TestCase):
    def test_within_one_another(self):
        self.assertEqual(reader_of("ab", "(" * 29 + "ab" + ")" * 29), reader_of("ab", "ab"))
        self.assertEqual(reader_of("ab", "(" * 28 + "a(b)" + ")" * 28), reader_of("ab", "ab"))
        self.assertEqual(reader_of("ab", "((((a)b)*)b)?"), reader_of("ab", "((ab)* b)?"))

    def assert_place(self, text, place):
        with self.assertRaises(InvalidText) as caught:
            reader_of("ab", text)
        self.assertEqual(caught.exception.place, place, text)

    def test_thirty_and_thirty_one_deep(self):
        # Thirty may stand within one another, but with a thing in them they are 61 words and signs.
        self.assert_place("(" * 30, 30)
        self.assert_place("(" * 30 + "a" + ")" * 29, 60)
        self.assert_place("(" * 30 + "a" + ")" * 30, 60)
        self.assert_place("(" * 31, 30)
        self.assert_place("(" * 31 + "a" + ")" * 31, 30)
        self.assert_place("( " * 31, 60)
        self.assert_place("a | (b) " + "(" * 31, 38)

    def test_brackets_beside_one_another_are_not_within(self):
        self.assertEqual(reader_of("ab", "(a)" * 20), reader_of("ab", "a" * 20))


class Places(unittest.TestCase):
    def assert_place(self, text, place):
        for letters in ("ab", "z"):
            with self.assertRaises(InvalidText) as caught:
                reader_of(letters, text)
            self.assertEqual(caught.exception.place, place, text)

    def test_ends_too_early(self):
        for text in ("", " ", "\n \n", "(", "(a", "a |", "a | ", "a &\n", "a -", "a (b | (a)", "((a)", " ( ", "a|(b"):
            self.assert_place(text, len(text))

    def test_what_cannot_stand(self):
        for text, place in (("a)", 1), ("(a))", 3), (")", 0), ("()", 1), ("a ()", 3), ("*", 0), (" +a", 1), ("(*a)", 1),
                            ("a|*", 2), ("a||b", 2), ("a | | b", 4), ("a &- b", 3), ("a -| b", 3), ("| a", 0),
                            ("a & & b", 4), ("- a", 0), ("& a", 0), ("(| a)", 1), ("(a |)", 4), ("(a -) b", 4),
                            ("a ( * )", 4)):
            self.assert_place(text, place)

    def test_signs_that_are_none(self):
        for sign in "!\"#$%'/:<@[\\]^`{}~\t\r\0\v\f\u00a0\u00e4\u00c4\u00b2\u0661\u2028\ud800":
            self.assert_place(f"a {sign} b", 2)
            self.assert_place(f"{sign}", 0)
            self.assert_place(f"a{sign}b", 1)

    def test_signs_of_programs(self):
        for sign in "=;,>":
            self.assert_place(f"a {sign} b", 2)
            self.assert_place(sign, 0)
            self.assert_place(f"a{sign}", 1)

    def test_keys(self):
        for key in "letters book kinds ask has comes bears apart same fewest end count".split():
            self.assert_place(key, 0)
            self.assert_place(f"a | {key}*", 4)
            self.assert_place(f"(a {key})", 3)
            self.assertRaises(NoLetter, reader_of, "ab", key + "s")
        self.assertRaises(InvalidText, reader_of, "aks", "ask")
        self.assertEqual(meant("as k", "aks", 3), "ask")

    def test_figures(self):
        for text, place in (("1", 0), ("a 1", 2), ("a1", 1), ("a*1", 2), ("(0)", 1), ("a | 40", 4), ("1a", 0)):
            self.assert_place(text, place)

    def test_side_by_side(self):
        for text, place in (("aB", 1), ("Ba", 1), ("abAB", 2), ("a | abABab", 6), ("A1", 1), ("(aB)", 2)):
            self.assert_place(text, place)
        self.assertRaises(Unknown, reader_of, "ab", "a B")
        self.assertRaises(Unknown, reader_of, "ab", "a*B")
        self.assertRaises(Unknown, reader_of, "ab", "(a)B(a)")
        self.assertRaises(Unknown, reader_of, "ab", "_B.")

    def test_long_words_and_names(self):
        self.assert_place("a" * 41, 0)
        self.assert_place("a | " + "a" * 41, 4)
        self.assert_place("b " + "a" * 1000, 2)
        self.assertRaises(NoLetter, reader_of, "b", LONG)
        self.assertRaises(Unknown, reader_of, "b", "A" * 8)
        self.assert_place("A" * 9, 0)
        self.assert_place("a (" + "A" * 9 + ")", 3)

    def test_sixty_words_and_signs(self):
        self.assertEqual(reader_of("a", "a " * 60), reader_of("a", LONG + " " + "a" * 20))
        self.assert_place("a " * 61, 120)
        self.assertEqual(reader_of("a", "a" + "*" * 59), reader_of("a", "a*"))
        self.assert_place("a" + "*" * 60, 60)
        self.assertEqual(reader_of("a", "a|" * 29 + "aa"), reader_of("a", "a | aa"))
        self.assertEqual(reader_of("a", "a|" * 29 + "a*"), reader_of("a", "a*"))
        self.assert_place("a|" * 30 + "a", 60)
        self.assert_place("a|" * 29 + "a**", 60)
        self.assert_place("(" + "a " * 58 + "a)", 118)
        self.assertEqual(reader_of("ab", "(" + "b* " * 29 + ")"), reader_of("ab", "b*"))
        self.assert_place("A " * 61, 120)
        self.assertRaises(Unknown, reader_of, "a", "A " * 60)

    def test_what_stands_behind_sixty_and_is_none_of_them(self):
        self.assert_place("a " * 60 + ";", 120)
        self.assert_place("a " * 60 + ")", 120)
        self.assert_place("a|" * 30, 60)

    def test_two_thousand_signs(self):
        self.assertEqual(reader_of("a", "a" + " " * 1999), reader_of("a", "a"))
        self.assertEqual(reader_of("a", " " * 1999 + "a"), reader_of("a", "a"))
        self.assert_place(" " * 2000, 2000)
        self.assert_place("a" + " " * 2000, 2000)
        self.assert_place(")" * 2001, 2000)
        self.assert_place("#" + " " * 2000, 2000)
        self.assert_place("#" + " " * 1999, 0)

    def test_many_texts(self):
        chance = random.Random(14)
        signs = ["a", "ab", "B", "1", "(", ")", "(", ")", "*", "+", "?", ".", "_", "|", "&", "-", ";", "end", "#"]
        for _ in range(3000):
            pieces = random_pieces(chance, "ab", chance.randint(1, 6), ("B",))
            for _ in range(chance.randint(0, 2)):
                at = chance.randrange(len(pieces) + 1)
                pieces[at:at + chance.randint(0, 1)] = chance.sample(signs, chance.randint(0, 2))
            text = spread(pieces, chance, 0.1)
            place = expression_refused_at(text)
            if place is None:
                self.assertRaises(InvalidNever, refusal_of, text)
            else:
                self.assert_place(text, place)


class InvalidNever(Exception):
    """The text was not refused with InvalidText."""


def refusal_of(text):
    try:
        reader_of("ab", text)
    except InvalidText:
        return
    except (Unknown, NoLetter, TooMany):
        pass
    raise InvalidNever()


class WrongValues(unittest.TestCase):
    def test_letters(self):
        for letters in ANY:
            if letters not in ("a", "ab"):
                for text in ("a", "", "#", None, 3, [], "c", "A"):
                    self.assertRaises(BadLetters, reader_of, letters, text)

    def test_no_text(self):
        for text in ANY:
            if not isinstance(text, str):
                self.assertRaises(NotText, reader_of, "ab", text)

    def test_texts(self):
        for text in ANY:
            if isinstance(text, str):
                try:
                    self.assertTrue(is_reader(reader_of("ab", text)))
                except ScribeError as error:
                    self.assertIn(type(error), (InvalidText, NoLetter, Unknown))

    def test_no_letter(self):
        for text, letter in (("c", "c"), ("abcba", "c"), ("dc", "d"), ("a | b c | d", "c"), ("(ab*cd)*", "c"),
                             ("zy+", "z"), ("abz*", "z"), ("z*", "z")):
            with self.assertRaises(NoLetter) as caught:
                reader_of("ab", text)
            self.assertEqual(caught.exception.letter, letter)

    def test_unknown(self):
        for text, name in (("B", "B"), ("a B", "B"), ("(BOOK)*", "BOOK"), ("ABCDEFGH", "ABCDEFGH"), ("B | A", "B")):
            with self.assertRaises(Unknown) as caught:
                reader_of("ab", text)
            self.assertEqual(caught.exception.name, name)

    def test_the_first_of_both_tells(self):
        self.assertRaises(NoLetter, reader_of, "ab", "ac B")
        self.assertRaises(NoLetter, reader_of, "ab", "a | ((c) B)")
        self.assertRaises(Unknown, reader_of, "ab", "B ac")
        self.assertRaises(Unknown, reader_of, "ab", "ab* (B)? & c")
        self.assertRaises(NoLetter, reader_of, "ab", "ac* (B)? & c")

    def test_places_are_ahead_of_letters_and_names(self):
        for text in ("c )", "B )", "c B (", "B |"):
            self.assertRaises(InvalidText, reader_of, "ab", text)

    def test_letters_and_names_are_ahead_of_too_many(self):
        self.assertRaises(NoLetter, reader_of, "ab", ".* a . . . . . . . . c")
        self.assertRaises(Unknown, reader_of, "ab", ".* a . . . . . . . . B")


class Stands(unittest.TestCase):
    def assert_too_many(self, letters, text):
        with self.assertRaises(TooMany) as caught:
            reader_of(letters, text)
        self.assertEqual(caught.exception.most, 200)

    def test_two_hundred(self):
        self.assertEqual(reader_of("a", "(aaaaaaaa)* & (aaaaaaaaaaaaaaaaaaaaaaaaa)*"), round_of("a", 200))
        self.assertEqual(reader_of("ab", "(" + ". " * 8 + ")* & (" + ". " * 25 + ")*"), round_of("ab", 200))
        # 198 letters in a row: a stand ahead of each, one behind them, one for what is none of it.
        self.assertEqual(len(reader_of("a", f"{LONG} {LONG} {LONG} {LONG} {'a' * 38}")[1]), 200)

    def test_more_than_two_hundred(self):
        self.assert_too_many("a", f"(aaa)* & ({LONG} {'a' * 27})*")
        self.assert_too_many("a", f"{LONG} {LONG} {LONG} {LONG} {'a' * 39}")
        self.assert_too_many("ab", ".* a . . . . . . .")
        self.assertEqual(len(reader_of("ab", ".* a . . . . . .")[1]), 128)

    def test_a_mark_more(self):
        row = f"{LONG} {LONG} {LONG} {LONG} {'a' * 38}"
        self.assertEqual(len(reader_of("a", f"({row})+")[1]), 199)
        self.assertEqual(len(reader_of("a", f"({row})*")[1]), 198)
        self.assertEqual(len(reader_of("a", f"({row})?")[1]), 200)
        # Without the empty text the round of 200 stands needs one more to begin with.
        self.assert_too_many("a", "(aaaaaaaa)+ & (aaaaaaaaaaaaaaaaaaaaaaaaa)+")
        round_text = "((aaaaaaaa)* & (aaaaaaaaaaaaaaaaaaaaaaaaa)*)"
        for mark in ("?", "*", "+", "?*+"):
            self.assertEqual(reader_of("a", round_text + mark), round_of("a", 200))
        self.assertEqual(reader_of("a", f"{round_text} a"), round_of("a", 200, (1,)))
        self.assert_too_many("a", f"({round_text} a)?")
        self.assertEqual(reader_of("a", f"({round_text} a)*"), reader_of("a", "a*"))

    def test_parts(self):
        # The whole has few stands, a part of it too many.
        self.assert_too_many("ab", ".* a . . . . . . . & a")
        self.assert_too_many("ab", "_ | a & (.* a . . . . . . .)")
        self.assert_too_many("ab", "(.* a . . . . . . .)*")
        self.assert_too_many("ab", "(.* a . . . . . . .)?")
        self.assert_too_many("ab", "((.* a . . . . . . .)) - .*")
        self.assert_too_many("ab", "(.* a . . . . . . .) .*")
        self.assert_too_many("a", f"({LONG} {LONG} {LONG} {LONG} {LONG})*")
        self.assert_too_many("a", f"((aaa)* & ({LONG} {'a' * 27})*) - .*")

    def test_rows_are_joined_from_the_left(self):
        self.assert_too_many("ab", ".* a . . . . . . . .*")
        self.assertEqual(len(reader_of("ab", ".* a (. . . . . . . .*)")[1]), 9)

    def test_far_too_many(self):
        self.assert_too_many("abcd", ".* a " + ". " * 50)
        self.assert_too_many("ab", "(.* a (" + ". " * 40 + "))*")
        self.assert_too_many("abcd", f"({LONG} b . | c (. . d .)* a)* (. . . a)* (. . . . . b)* (. . . . . . . c)*")


class ManyExpressions(unittest.TestCase):
    def assert_means(self, letters, text, tree):
        try:
            reader = reader_of(letters, text)
        except TooMany:
            return
        right = texts_meant(tree, letters, 5)
        self.assertEqual({each for each in texts_of(letters, 5) if said(reader, each)}, right, text)
        self.assertTrue(is_reader(reader))
        self.assertTrue(is_numbered_as_come_to(reader))
        self.assertEqual(fewest_stands(reader), len(reader[1]))

    def test_all_small_ones(self):
        parts = ["a", "b", "ab", ".", "_"]
        for one in parts:
            for mark in ("", "*", "+", "?"):
                self.assert_means("ab", one + mark, tree_of_text(one + mark))
                for sign in (" ", "|", "&", "-"):
                    for other in parts:
                        for text in (f"{one}{mark}{sign}{other}", f"({one}{sign}{other}){mark}"):
                            self.assert_means("ab", text, tree_of_text(text))

    def test_random_ones(self):
        chance = random.Random(15)
        for _ in range(600):
            letters = chance.choice(("a", "ab", "ab", "abc"))
            pieces = random_pieces(chance, letters, chance.randint(1, 9))
            text = spread(pieces, chance)
            if expression_refused_at(text) is None:
                self.assert_means(letters, text, tree_of(pieces))


if __name__ == "__main__":
    unittest.main()
