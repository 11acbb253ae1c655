"""[9]: printed."""

import random
import unittest

from anyscribe.books import reader_of
from anyscribe.errors import (BadKind, BadKinds, BadLetters, InvalidText, NoLetter, NotText, ScribeError, TooMany, Twice,
                              Unknown)
from anyscribe.printing import printed
from anyscribe.reading import check
from tests.plain import expression_refused_at, first_error, pieces_of, random_pieces, spread, tree_of_text
from tests.support import ANY

AHEAD = "letters ab; book A = a b*; book B = b | A; kinds K = b > _; "
AHEAD_PRINTED = "letters ab;\nbook A = a b*;\nbook B = b | A;\nkinds K = b > _;\n"


def printed_book(text):
    """The one form of an expression; A and B may stand in it."""
    whole = printed(AHEAD + f"book C = {text};")
    start = AHEAD_PRINTED + "book C = "
    assert whole.startswith(start) and whole.endswith(";"), whole
    return whole[len(start):-1]


class Programs(unittest.TestCase):
    def test_example(self):
        text = "letters ab;book B=(ab)* |(a)(ba+);kinds K=a>_,_>b;ask has B _;ask fewest ab b K;"
        right = "letters ab;\nbook B = (ab)* | a (b a+);\nkinds K = a > _, _ > b;\nask has B _;\nask fewest ab b K;"
        self.assertEqual(printed(text), right)
        self.assertEqual(printed(right), right)

    def test_letters_alone(self):
        self.assertEqual(printed("letters ab;"), "letters ab;")
        self.assertEqual(printed(" letters\n\nabcd ; \n"), "letters abcd;")

    def test_each_statement(self):
        for statement in ("book C = a;", "kinds L = ab > a;", "kinds L = _ > b, aba > _, a > b;", "ask has A ab;",
                          "ask has A _;", "ask comes A K ab;", "ask bears A K;", "ask apart A B K;", "ask same A B;",
                          "ask fewest ab a K;", "ask fewest _ _ K;", "ask end abb K;", "ask count A 0;",
                          "ask count A 40;"):
            self.assertEqual(printed(AHEAD + statement), AHEAD_PRINTED + statement)
            spaced = "\n".join(piece for _, piece, _ in pieces_of(statement))
            self.assertEqual(printed(AHEAD + spaced + "\n"), AHEAD_PRINTED + statement)

    def test_no_blanks_to_begin_with(self):
        text = "letters ab;book A=a;kinds K=a>_,_>b,ab>_;ask has A_;ask fewest__K;ask end a K;ask count A 7;"
        self.assertEqual(printed(text), "letters ab;\nbook A = a;\nkinds K = a > _, _ > b, ab > _;\nask has A _;\n"
                                        "ask fewest _ _ K;\nask end a K;\nask count A 7;")

    def test_asks_keep_their_order(self):
        text = "letters a;\nbook B = a;\nask has B a;\nbook A = B;\nask count A 1;\nask has A _;\nask has B a;"
        self.assertEqual(printed(text), text)
        self.assertEqual(printed(text.replace("\n", " ")), text)

    def test_longer_than_a_program(self):
        text = "letters ab;book B=" + "a|" * 29 + "a;" + "ask has B_;" * 170
        self.assertIsNone(check(text))
        found = printed(text)
        self.assertGreater(len(found), 2000)
        self.assertRaises(InvalidText, check, found)
        self.assertEqual(found, "letters ab;\nbook B = " + "a | " * 29 + "a;" + "\nask has B _;" * 170)


class Brackets(unittest.TestCase):
    def assert_kept(self, text):
        self.assertEqual(printed_book(text), text)

    def assert_printed(self, text, right):
        self.assertEqual(printed_book(text), right)
        self.assertEqual(printed_book(right), right)

    def test_kept(self):
        for text in ("a (b c)", "a | (b | c)", "a & (b - c)", "a - (b & c)", "a & (b & c)", "a - (b - c)", "(ab)*",
                     "(a b)*", "(a | b)*", "(a | b) c", "a (b | c)", "(a | b) & c", "a & (b | c)", "(a & b) c",
                     "a (b - c)", "(a - b)+", "a (b c) a", "a (b (c a))", "a (b c)*", "(a b)* c", "a (ab c)",
                     "a | (b | c) | a", "(a b*)*", "((a | b) c)*", "a ((a | b) c)", "(ab)*+?", "(A B)?", "A (B A)"):
            self.assert_kept(text.replace("c", "."))

    def test_dropped(self):
        for text, right in (("(a b) c", "a b c"), ("(a | b) | c", "a | b | c"), ("(a & b) - c", "a & b - c"),
                            ("(a - b) & c", "a - b & c"), ("(a b) | c", "a b | c"), ("a | (b c)", "a | b c"),
                            ("a | (b & c)", "a | b & c"), ("(a - b) | c", "a - b | c"), ("(a b) & c", "a b & c"),
                            ("a - (b c)", "a - b c"), ("((a b) c) a", "a b c a"), ("(((a b) c))", "a b c"),
                            ("(a)", "a"), ("((a))*", "a*"), ("((a)*)+", "a*+"), ("(a*) b", "a* b"), ("a (b*)", "a b*"),
                            ("(A)* (_)+ (.)?", "A* _+ .?"), ("((ab)*)", "(ab)*"), ("((a | b))", "a | b"),
                            ("a ((b c))", "a (b c)"), ("((a | b)) c", "(a | b) c"), ("((a b))*", "(a b)*"),
                            ("(a | b | c)", "a | b | c"), ("((a | (b)))*", "(a | b)*")):
            self.assert_printed(text.replace("c", "."), right.replace("c", "."))

    def test_words(self):
        for text, right in (("ab", "ab"), ("(ab)", "ab"), ("a(ab)b", "a ab b"), ("(a)(b)", "a b"), ("((ab))*", "(ab)*"),
                            ("((ab))", "ab"), ("(ab) | ((ba))", "ab | ba"), ("a b", "a b"), ("(ab)(ba)*", "ab (ba)*")):
            self.assert_printed(text, right)

    def test_names(self):
        text = "letters a; book LONGNAME = a; book AB = (LONGNAME)* ((AB | LONGNAME)) (LONGNAME a)+;"
        self.assertRaises(Unknown, printed, text)
        found = printed(text.replace("AB |", "LONGNAME |"))
        self.assertEqual(found, "letters a;\nbook LONGNAME = a;\n"
                                "book AB = LONGNAME* (LONGNAME | LONGNAME) (LONGNAME a)+;")

    def test_words_with_marks(self):
        for text, right in (("ab*", "a b*"), ("bab+?", "ba b+?"), ("a ab*", "a a b*"), ("a(ab*)", "a (a b*)"),
                            ("(ab*)a", "a b* a"), ("(ab*)*", "(a b*)*"), ("ab* ba+", "a b* b a+"), ("(ab)*", "(ab)*"),
                            ("(a)(ba+)", "a (b a+)"), ("ab*|ba", "a b* | ba"), ("ab*&(ba? - b)", "a b* & (b a? - b)"),
                            ("(ab*)(ab*)", "a b* (a b*)"), ("((ab)b*)", "ab b*"), ("ab *", "a b*"), ("b*", "b*")):
            self.assert_printed(text, right)

    def test_blanks(self):
        self.assert_printed("(a|b)*&a b?-_|ab.", "(a | b)* & a b? - _ | ab .")
        self.assert_printed("a  *  +  ?", "a*+?")
        self.assert_printed("( ( a | b ) a ) *", "((a | b) a)*")
        self.assert_printed("._A.B", ". _ A . B")
        self.assert_printed("a(b|a)(a|b)a", "a (b | a) (a | b) a")
        self.assert_printed("a*b*", "a* b*")
        self.assert_printed("a\n|\nb", "a | b")

    def test_deep(self):
        self.assert_printed("(" * 29 + "ab" + ")" * 29, "ab")
        deep = "a (" * 14 + "a a" + ")" * 14
        self.assert_kept(deep)
        self.assert_kept("a" + "*" * 59)
        self.assert_kept(" ".join("ab" * 30))


class AgainstAPlainWay(unittest.TestCase):
    def random_books(self, seed, times):
        chance = random.Random(seed)
        for _ in range(times):
            pieces = random_pieces(chance, "ab", chance.randint(1, 9), ("A", "B"))
            text = spread(pieces, chance)
            if expression_refused_at(text) is None:
                yield text

    def test_the_tree_stays(self):
        for text in self.random_books(18, 1500):
            self.assertEqual(tree_of_text(printed_book(text)), tree_of_text(text), text)

    def test_without_a_pair_of_brackets_another_tree_is_read(self):
        for text in self.random_books(19, 700):
            found = printed_book(text)
            for start in [at for at, sign in enumerate(found) if sign == "("]:
                end = min(at for at in range(start, len(found))
                          if found[start:at + 1].count("(") == found[start:at + 1].count(")"))
                without = found[:start] + found[start + 1:end] + found[end + 1:]
                self.assertNotEqual(tree_of_text(without), tree_of_text(found), found)

    def test_printed_again(self):
        for text in self.random_books(20, 1000):
            found = printed_book(text)
            if expression_refused_at(found) is None:
                self.assertEqual(printed_book(found), found)

    def test_blanks_of_the_one_form(self):
        for text in self.random_books(21, 1000):
            found = printed_book(text)
            pieces = [piece for _, piece, _ in pieces_of(found)]
            right = " ".join(pieces).replace("( ", "(")
            for sign in ")*+?":
                right = right.replace(" " + sign, sign)
            self.assertEqual(found, right)

    def test_the_same_texts_are_meant(self):
        chance = random.Random(22)
        for _ in range(200):
            text = spread(random_pieces(chance, "ab", chance.randint(1, 7)), chance)
            if expression_refused_at(text) is None:
                try:
                    reader = reader_of("ab", text)
                except TooMany:
                    continue
                self.assertEqual(reader_of("ab", printed_book(text)), reader)


class Wrong(unittest.TestCase):
    def assert_like_check(self, text):
        with self.assertRaises(ScribeError) as one:
            check(text)
        with self.assertRaises(ScribeError) as other:
            printed(text)
        self.assertIs(type(one.exception), type(other.exception))
        self.assertEqual(vars(one.exception), vars(other.exception))

    def test_any_value(self):
        for value in ANY:
            self.assert_like_check(value)
            self.assertRaises(InvalidText if isinstance(value, str) else NotText, printed, value)

    def test_errors_of_check(self):
        for text, error in (("letters ba;", BadLetters), ("letters ab; book A = c;", NoLetter), (None, NotText),
                            ("letters ab; book A = B;", Unknown), ("letters ab; kinds K = a > a;", BadKind),
                            ("letters ab; kinds K = a > b, a > b;", BadKinds), ("", InvalidText),
                            ("letters ab;" + " " * 1990, InvalidText), ("letters ab; book A = a", InvalidText),
                            ("letters ab; book A = a; book A = a;", Twice), ("letters ab; ask has A a;", Unknown)):
            self.assertRaises(error, printed, text)
            self.assert_like_check(text)
            self.assertIsNotNone(first_error(text) if isinstance(text, str) else error)

    def test_nothing_is_read_that_has_too_many_stands(self):
        text = "letters ab;\nbook A = .* a . . . . . . . . . .;"
        self.assertEqual(printed(text), text)


if __name__ == "__main__":
    unittest.main()
