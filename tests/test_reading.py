"""[8]: check."""

import random
import unittest

from anyscribe import errors
from anyscribe.errors import (BadKind, BadKinds, BadLetters, InvalidText, NoLetter, NotText, ScribeError, Twice,
                              Unknown)
from anyscribe.reading import check
from tests.plain import ASKS, KEYS, first_error, random_pieces, spread
from tests.support import ANY

FIELDS = {"InvalidText": "place", "NoLetter": "letter", "Unknown": "name", "Twice": "name"}

# A book, a second one, and kinds, to be put ahead of what is to be checked.
AHEAD = "letters ab; book A = a b*; book B = b | A; kinds K = b > _; "

STATEMENTS = (
    "letters ab ;", "book N = a ;", "book N = ( A ) * & . - _ | ab + ;", "kinds N = ab > a ;",
    "kinds N = _ > b , aba > _ , a > b ;", "ask has A ab ;", "ask has A _ ;", "ask comes A K ab ;",
    "ask comes B K _ ;", "ask bears A K ;", "ask apart A B K ;", "ask same A B ;", "ask fewest ab a K ;",
    "ask fewest _ _ K ;", "ask end abb K ;", "ask end _ K ;", "ask count A 3 ;",
)
OTHERS = ("a", "_", "A", "K", "3", ";", "=", ",", ">", "(", ")", "*", "|", ".", "book", "kinds", "ask", "letters",
          "has", "count", "end", "#", "007", "a" * 41, "A" * 9, "")


def error_of(text):
    """The error of check as a tuple of its name and its field, None for none."""
    try:
        answer = check(text)
    except ScribeError as error:
        name = type(error).__name__
        assert type(error) is getattr(errors, name)
        return (name, getattr(error, FIELDS[name])) if name in FIELDS else (name,)
    assert answer is None
    return None


class Checks(unittest.TestCase):
    def assert_right(self, text):
        self.assertIsNone(error_of(text), text)

    def assert_error(self, text, *error):
        self.assertEqual(error_of(text), error, text)

    def assert_place(self, text, place):
        self.assert_error(text, "InvalidText", place)


class WellFormed(Checks):
    def test_example(self):
        self.assertIsNone(check("letters ab;"))

    def test_each_statement(self):
        self.assert_right(AHEAD)
        for statement in STATEMENTS[1:]:
            self.assert_right(AHEAD + statement)
            self.assert_right(AHEAD + statement.replace(" ;", ";"))

    def test_letters(self):
        for letters in ("a", "z", "az", "abcd", "mnop"):
            self.assert_right(f"letters {letters};")

    def test_the_program_of_run(self):
        text = "letters ab; book A = a b*; book B = bb; kinds K = b > _; "
        asks = "ask has A abb; ask comes A K a; ask bears A K; ask fewest abb a K; ask end abb K; ask count A 3;"
        self.assert_right(text + asks + " ask same A A; ask apart A B K;")

    def test_blanks_and_line_ends_everywhere(self):
        names = iter("CDEF")
        pieces = (AHEAD + " ".join(STATEMENTS[1:])).replace(";", " ; ").split()
        pieces = [next(names) if piece == "N" else piece for piece in pieces]
        self.assert_right(" ".join(pieces))
        self.assert_right("\n".join(pieces))
        self.assert_right(" \n  " + " \n\n ".join(pieces) + "\n \n")
        chance = random.Random(16)
        for _ in range(30):
            self.assert_right(spread(pieces, chance))

    def test_no_blanks_where_none_are_needed(self):
        self.assert_right("letters ab;book A=a b*|(ab)?_.;")
        self.assert_right("letters ab;book A=a;book B=_A.(A)*A;kinds K=a>_,_>b;ask has A_;ask fewest__K;ask end _K;")
        self.assert_right("letters ab;book A=a;ask count A 0;ask has A a;")

    def test_numbers(self):
        for number in range(41):
            self.assert_right(AHEAD + f"ask count A {number};")

    def test_long_words_and_names(self):
        self.assert_right("letters ab; book ABCDEFGH = " + "ab" * 20 + "; ask has ABCDEFGH " + "b" * 40 + ";")

    def test_books_as_long_as_can_be(self):
        self.assert_right("letters a; book A = " + "a " * 60 + "; book B = " + "a|" * 29 + "aa;")
        self.assert_right("letters a; book A = a; book B = " + "A " * 60 + ";")

    def test_more_stands_than_a_reader_may_have(self):
        self.assert_right("letters ab; book A = .* a . . . . . . . . . . .; ask has A a;")


class Places(Checks):
    def test_ends_too_early(self):
        for text in ("", " ", "\n", " \n ", "letters", "letters ", "letters ab", "letters ab ", "letters ab;book",
                     "letters ab; book A", "letters ab; book A =", "letters ab; book A = ", "letters ab; book A = a",
                     "letters ab; book A = (a", "letters ab; book A = a |", "letters ab; kinds K = a >",
                     "letters ab; kinds K = a > b,", "letters ab; kinds K = a > b", "letters ab; ask",
                     "letters ab; ask has", "letters ab; ask has A", "letters ab; ask count A",
                     "letters ab; ask count A 4", "letters ab; ask same A A\n"):
            self.assert_place(text, len(text))

    def test_what_cannot_stand(self):
        for text, place in (("book A = a;", 0), ("ab;", 0), ("letters;", 7), ("letters _;", 8), ("letters A;", 8),
                            ("letters 3;", 8), ("letters book;", 8), ("letters letters;", 8), ("letters ab", 10),
                            ("letters ab ab;", 11), ("letters ab;;", 11), ("letters ab; letters ab;", 12),
                            ("letters ab; a;", 12), ("letters ab; A;", 12), ("letters ab; has A a;", 12),
                            ("letters ab; count A 3;", 12), ("letters ab; ask ask has A a;", 16),
                            ("letters ab; ask book A;", 16), ("letters ab; ask a;", 16), ("letters ab; ask;", 15),
                            ("letters ab; book a = a;", 17), ("letters ab; book book = a;", 17),
                            ("letters ab; book A a;", 19), ("letters ab; book A = ;", 21),
                            ("letters ab; book A = a = b;", 23), ("letters ab; book A = a > b;", 23),
                            ("letters ab; book A = a, b;", 22), ("letters ab; kinds K = a;", 23),
                            ("letters ab; kinds K = a > b > b;", 28), ("letters ab; kinds K = a > b,;", 28),
                            ("letters ab; kinds K = , a > b;", 22), ("letters ab; kinds K = . > b;", 22),
                            ("letters ab; kinds K = a b > b;", 24), ("letters ab; kinds K = (a) > b;", 22),
                            ("letters ab; kinds K = A > b;", 22), ("letters ab; kinds K = a - > b;", 24),
                            ("letters ab, ba;", 10), ("letters ab; ask has A (a);", 22), ("letters ab; kinds K =;", 21),
                            ("letters ab; ask has A .;", 22), ("letters ab; ask count A _;", 24)):
            self.assert_place(text, place)

    def test_expressions(self):
        start = len("letters ab; book A = ")
        for told, place in (("()", 1), ("*", 0), ("a || b", 3), ("a | | b", 4), ("a - & b", 4), ("(a", 2), ("a)", 1),
                            ("a end", 2), ("has", 0), ("a | count*", 4), ("a 1", 2), ("a1", 1), ("aB", 1), ("Ab", 1),
                            ("a" * 41, 0), ("b " + "A" * 9, 2), ("a # b", 2), ("a\tb", 1), ("a " * 61, 120),
                            ("A " * 61, 120), ("(" * 31, 30), ("(" * 30 + "a" + ")" * 30, 60), ("a&" * 30 + "a", 60),
                            ("A B a " * 20 + "*", 120)):
            self.assert_place(f"letters ab; book A = {told};", start + place)

    def test_figures(self):
        start = len(AHEAD + "ask count A ")
        for number in ("41", "007", "00", "01", "040", "100", "1" * 5, "9" * 1500):
            self.assert_place(AHEAD + f"ask count A {number};", start)
        for told, place in (("-1", 0), ("+1", 0), ("4 0", 2), ("40 0", 3), ("a", 0), ("B", 0), ("4a", 1), ("4A", 1),
                            ("0x", 1), ("1.0", 1), ("", 0), ("_", 0), ("count", 0)):
            self.assert_place(AHEAD + f"ask count A {told};", start + place)
        self.assert_place(AHEAD + "ask count A3;", start - 1)
        self.assert_place(AHEAD + "ask has A 3;", start - 2)
        self.assert_place("letters ab; book A3 = a;", 18)

    def test_blanks_that_are_missing(self):
        for text, place in (("lettersab;", 0), ("lettersA;", 7), ("letters abA;", 10), ("letters ab1;", 10),
                            ("letters ab; bookA = a;", 16), ("letters ab; askhas A a;", 12),
                            ("letters ab; ask hasA a;", 19), ("letters ab; book A = a; ask has Aa;", 33),
                            ("letters ab; book A = aA;", 22), ("letters ab; ask same AA;", 23)):
            self.assert_place(text, place)

    def test_keys_are_no_texts(self):
        for key in sorted(KEYS):
            for ahead, behind in (("letters ", ";"), ("letters ab; book A = a ", ";"), ("letters ab; kinds K = ", "> a;"),
                                  ("letters ab; kinds K = a > ", ";"), ("letters ab; ask has A ", ";"),
                                  ("letters ab; ask comes A K ", ";"), ("letters ab; ask fewest ", " a K;"),
                                  ("letters ab; ask fewest a ", " K;"), ("letters ab; ask end ", " K;"),
                                  ("letters ab; book ", " = a;"), ("letters ab; kinds ", " = a > b;"),
                                  ("letters ab; ask same ", " A;"), ("letters ab; book A = ", "* a;")):
                self.assert_place(ahead + key + behind, len(ahead))

    def test_words_and_names_that_are_too_long(self):
        for ahead, behind in (("letters ", ";"), ("letters ab; kinds K = ", "> a;"), ("letters ab; ask end ", " K;"),
                              ("letters ab; kinds K = a > ", ";"), ("letters ab; book A = (", ")*;")):
            self.assert_place(ahead + "a" * 41 + behind, len(ahead))
            # The next longest word may be refused for what it means, but not for where it stands.
            self.assertNotEqual((error_of(ahead + "a" * 40 + behind) or ("",))[0], "InvalidText")
        for ahead, behind in (("letters ab; book ", " = a;"), ("letters ab; kinds ", " = a > b;"),
                              ("letters ab; ask has ", " a;"), ("letters ab; ask apart A B ", ";")):
            self.assert_place(ahead + "A" * 9 + behind, len(ahead))
            self.assertIn(error_of(ahead + "A" * 8 + behind), (None, ("Unknown", "A" * 8), ("Unknown", "A")))

    def test_signs_that_are_none(self):
        for sign in "!\"#$%'/:<@[\\]^`{}~\t\r\0\v\u00a0\u00e4\u00c4\u00b2\u0661\u2028\ud800":
            self.assert_place(f"letters ab{sign};", 10)
            self.assert_place(f"letters ab;{sign}", 11)
            self.assert_place(f"{sign}letters ab;", 0)
            self.assert_place(f"letters ab; book {sign}A = a;", 17)

    def test_two_thousand_signs(self):
        self.assert_right("letters ab;" + " " * 1989)
        self.assert_right("\n" * 1989 + "letters ab;")
        self.assert_place("letters ab;" + " " * 1990, 2000)
        self.assert_place("#" * 2001, 2000)
        self.assert_place("#" * 2000, 0)
        self.assert_place(" " * 2000, 2000)
        self.assert_place("letters ba;" + " " * 5000, 2000)

    def test_places_are_ahead_of_all_other_errors(self):
        self.assert_place("letters ba; book A = c; book A = B; kinds K = a > a; ask has A a", 64)
        self.assert_place("letters ba;;", 11)
        self.assert_place("letters ab; kinds K = a > a; book B = C | ;", 42)


class NoText(Checks):
    def test_any_value(self):
        for value in ANY:
            if isinstance(value, str):
                self.assertEqual(error_of(value)[0], "InvalidText")
            else:
                self.assertRaises(NotText, check, value)


class Letters(Checks):
    def test_bad_letters(self):
        for letters in ("ba", "aa", "abcde", "abb", "zy", "a" * 40):
            self.assert_error(f"letters {letters};", "BadLetters")

    def test_bad_letters_are_ahead_of_the_others(self):
        for told in ("book A = c;", "book A = B;", "book A = a; book A = a;", "kinds K = a > a;", "ask has A a;"):
            self.assert_error(f"letters ba; {told}", "BadLetters")

    def test_no_letter(self):
        for told, letter in (("book C = c;", "c"), ("book C = abca;", "c"), ("book C = a | d b | c;", "d"),
                             ("book C = acd*;", "c"), ("book C = abd*;", "d"), ("kinds L = a > c;", "c"),
                             ("kinds L = bc > a;", "c"), ("kinds L = d > c;", "d"), ("kinds L = a > b, c > _;", "c"),
                             ("ask has A c;", "c"), ("ask comes A K abz;", "z"), ("ask fewest c d K;", "c"),
                             ("ask fewest a d K;", "d"), ("ask end ax K;", "x")):
            self.assert_error(AHEAD + told, "NoLetter", letter)


class Names(Checks):
    def test_told_ahead(self):
        self.assert_error("letters ab; book A = A;", "Unknown", "A")
        self.assert_error("letters ab; book A = B; book B = a;", "Unknown", "B")
        self.assert_error("letters ab; ask has A a; book A = a;", "Unknown", "A")
        self.assert_error("letters ab; book A = a; ask bears A K; kinds K = a > b;", "Unknown", "K")
        self.assert_error("letters ab; book A = a; book B = a b | (C)* A;", "Unknown", "C")
        self.assert_right("letters ab; book A = a; book B = A | A; book C = (A)* B;")

    def test_each_name_of_each_ask(self):
        sample = {"B": "A", "K": "K", "S": "a", "9": "3"}
        for key, sorts in ASKS.items():
            for at, sort in enumerate(sorts):
                if sort not in "BK":
                    continue
                parts = [sample[each] for each in sorts]
                self.assert_right(AHEAD + " ".join(["ask", key] + parts) + ";")
                for name in ("X", "K" if sort == "B" else "A"):
                    parts[at] = name
                    self.assert_error(AHEAD + " ".join(["ask", key] + parts) + ";", "Unknown", name)

    def test_kinds_are_no_books(self):
        self.assert_error(AHEAD + "book C = K;", "Unknown", "K")
        self.assert_error(AHEAD + "book C = a | (b K*);", "Unknown", "K")

    def test_twice(self):
        for told in ("book A = b;", "kinds A = a > b;", "book A = A;", "book A = X;", "book A = c;", "kinds A = a > a;",
                     "kinds A = c > a;"):
            self.assert_error(AHEAD + told, "Twice", "A")
        for told in ("book K = b;", "kinds K = a > b;", "kinds K = b > _;"):
            self.assert_error(AHEAD + told, "Twice", "K")
        self.assert_right("letters ab; book A = a; book AA = a; kinds AAA = a > b;")


class Kinds(Checks):
    def test_sides(self):
        for kind in ("a > a", "_ > _", "abab > a", "a > ab", "_ > aa", "aaaa > bb", "ab > ab", "a > " + "b" * 40):
            self.assert_error(AHEAD + f"kinds L = {kind};", "BadKind")
            self.assert_error(AHEAD + f"kinds L = a > b, {kind}, b > a;", "BadKind")
        for kind in ("aba > b", "aba > _", "_ > a", "a > _", "aa > a", "ab > a"):
            self.assert_right(AHEAD + f"kinds L = {kind};")

    def test_letters_of_both_sides_are_ahead_of_the_kind(self):
        self.assert_error(AHEAD + "kinds L = c > c;", "NoLetter", "c")
        self.assert_error(AHEAD + "kinds L = aaaa > c;", "NoLetter", "c")
        self.assert_error(AHEAD + "kinds L = a > a, c > _;", "BadKind")
        self.assert_error(AHEAD + "kinds L = c > _, a > a;", "NoLetter", "c")

    def test_how_many(self):
        sides = [f"{left} > {right}" for left in ("_", "a", "b", "ab", "ba", "aab") for right in ("a", "b", "_")
                 if left != right]
        self.assert_right("letters ab; kinds K = " + ", ".join(sides[:12]) + ";")
        self.assert_error("letters ab; kinds K = " + ", ".join(sides[:13]) + ";", "BadKinds")
        self.assert_error("letters ab; kinds K = " + ", ".join(sides[:1] * 13) + ";", "BadKinds")

    def test_told_twice(self):
        self.assert_error("letters ab; kinds K = a > b, b > a, a > b;", "BadKinds")
        self.assert_error("letters ab; kinds K = _ > b, _ > b;", "BadKinds")
        self.assert_right("letters ab; kinds K = a > b, b > a, a > _, ab > b;")

    def test_both_behind_a_bad_kind_further_on(self):
        many = ", ".join(["a > b"] * 13)
        self.assert_error(f"letters ab; kinds K = {many}, a > a;", "BadKind")
        self.assert_error("letters ab; kinds K = a > b, a > b, b > b;", "BadKind")
        self.assert_error("letters ab; kinds K = a > b, a > b, b > c;", "NoLetter", "c")
        self.assert_error("letters ab; kinds K = a > b, a > b; book A = c;", "BadKinds")
        self.assert_error("letters ab; book A = c; kinds K = a > b, a > b;", "NoLetter", "c")

    def test_no_kinds_of_a_wrong_statement_are_told(self):
        self.assert_error("letters ab; kinds K = a > b; kinds K = a > a;", "Twice", "K")


class Order(Checks):
    def test_first_by_the_order_of_the_text(self):
        wrong = [("book C = c;", ("NoLetter", "c")), ("book D = X;", ("Unknown", "X")), ("book A = a;", ("Twice", "A")),
                 ("kinds M = a > a;", ("BadKind",)), ("kinds N = a > b, a > b;", ("BadKinds",)),
                 ("ask has Y a;", ("Unknown", "Y")), ("ask end z K;", ("NoLetter", "z"))]
        for one, error in wrong:
            for other, _ in wrong:
                self.assert_error(AHEAD + one + other, *error)

    def test_within_one_statement(self):
        self.assert_error(AHEAD + "book C = c X;", "NoLetter", "c")
        self.assert_error(AHEAD + "book C = X c;", "Unknown", "X")
        self.assert_error(AHEAD + "ask has X c;", "Unknown", "X")
        self.assert_error(AHEAD + "ask fewest c d X;", "NoLetter", "c")
        self.assert_error(AHEAD + "ask end c X;", "NoLetter", "c")
        self.assert_error(AHEAD + "ask comes X Y c;", "Unknown", "X")
        self.assert_error(AHEAD + "ask comes A Y c;", "Unknown", "Y")
        self.assert_error(AHEAD + "ask apart A Y Z;", "Unknown", "Y")
        self.assert_error(AHEAD + "ask apart A K B;", "Unknown", "K")


class AgainstAPlainWay(Checks):
    def assert_like_plain(self, text):
        self.assertEqual(error_of(text), first_error(text), text)

    def test_parts_left_out_doubled_and_taken_for_another(self):
        for statement in STATEMENTS:
            pieces = statement.split()
            for at in range(len(pieces)):
                for other in ([], pieces[at:at + 1] * 2, *([each] for each in OTHERS)):
                    text = " ".join(pieces[:at] + list(other) + pieces[at + 1:])
                    self.assert_like_plain(text if statement.startswith("letters") else AHEAD + text)
                    self.assert_like_plain(text + " ask has A a;" if at % 2 else AHEAD + text + " ask bears A K;")

    def random_statement(self, chance):
        names = ["A", "A", "B", "K", "K", "LONG", "X"]
        sides = ["_", "a", "b", "ab", "ba", "aba", "abab", "c"]
        key = chance.choice(("book", "kinds", "ask", "ask"))
        if key == "book":
            letters = chance.choice(("ab", "ab", "ab", "abc"))
            told = random_pieces(chance, letters, chance.randint(1, 5), names[:chance.randint(0, 7)])
            return [key, chance.choice(names[1:]), "=", *told, ";"]
        if key == "kinds":
            kinds = []
            for _ in range(chance.choice((1, 1, 2, 3, 13))):
                kinds += [",", chance.choice(sides), ">", chance.choice(sides[:3])]
            return [key, chance.choice(names[1:]), "=", *kinds[1:], ";"]
        ask = chance.choice(sorted(ASKS))
        choices = {"S": sides, "B": names, "K": names[::-1], "9": ["0", "7", "40"]}
        return [key, ask, *[chance.choice(choices[sort]) for sort in ASKS[ask]], ";"]

    def test_random_programs(self):
        chance = random.Random(17)
        seen = {}
        for _ in range(4000):
            pieces = ["letters", chance.choice(("ab", "ab", "ab", "ab", "abc", "abcd", "ba")), ";"]
            for _ in range(chance.randint(0, 5)):
                pieces += self.random_statement(chance)
            if chance.random() < 0.4:
                at = chance.randrange(len(pieces))
                pieces[at:at + chance.randint(0, 1)] = chance.sample(OTHERS, chance.randint(0, 2))
            text = spread(pieces, chance, chance.choice((0, 0, 0.1)))
            self.assert_like_plain(text)
            error = first_error(text)
            seen[error and error[0]] = seen.get(error and error[0], 0) + 1
        self.assertEqual(set(seen), {None, "InvalidText", "BadLetters", "NoLetter", "Unknown", "Twice", "BadKind",
                                     "BadKinds"})
        self.assertGreater(min(seen.values()), 10, seen)

    def test_texts_cut_off(self):
        text = AHEAD + "book C = (a | b)* & A - _; kinds L = a > b, _ > a; ask comes C L ab; ask count C 40;"
        for end in range(len(text) + 1):
            self.assert_like_plain(text[:end])
            self.assert_like_plain(text[:end] + text[end + 1:])


class Classes(unittest.TestCase):
    def test_errors_are_those_told(self):
        for text, kind in (("letters ba;", BadLetters), ("letters ab; book A = c;", NoLetter), (None, NotText),
                           ("letters ab; book A = B;", Unknown), ("letters ab; kinds K = a > a;", BadKind),
                           ("letters ab; kinds K = a > b, a > b;", BadKinds), ("", InvalidText),
                           ("letters ab; book A = a; book A = a;", Twice)):
            with self.assertRaises(kind) as caught:
                check(text)
            self.assertIs(type(caught.exception), kind)


if __name__ == "__main__":
    unittest.main()
