"""[9]: run."""

import random
import unittest

from anyscribe.books import reader_of
from anyscribe.copying import comes
from anyscribe.errors import (BadKind, BadKinds, BadLetters, BadMender, InvalidText, NoLetter, NotText, ScribeError,
                              TooLong, TooMany, Twice, Unknown)
from anyscribe.menders import mended
from anyscribe.parting import are_apart
from anyscribe.printing import printed
from anyscribe.reading import check
from anyscribe.readers import are_alike, count, verdict
from anyscribe.running import run
from anyscribe.standing import bears
from anyscribe.ways import fewest
from tests.plain import first_error, random_pieces
from tests.scribes import plain_comes, random_kinds
from tests.support import ANY, fewest_stands

AHEAD = "letters ab; book A = a b*; book B = bb; kinds K = b > _; "
# A book whose least reader has more than 200 stands.
MANY = ".* a . . . . . . ."
# A book with few stands, and kinds by which a book with too many of them comes of it.
WILD = "letters ab; book W = b b* aabb . bbbb; kinds L = _ > a; kinds M = a > b; "


def asked(asks, ahead=AHEAD):
    return run(ahead + asks)


class Examples(unittest.TestCase):
    def test_example(self):
        text = "letters ab; book A = a b*; book B = B; kinds K = b > _; "
        asks = "ask has A abb; ask comes A K a; ask bears A K; ask fewest abb a K; ask end abb K; ask count A 3; " \
               "ask same A A;"
        found = run(text.replace("book B = B", "book B = bb") + asks + " ask apart A B K;")
        self.assertEqual(found, (True, True, False, 2, "a", 1, True, True))
        self.assertRaises(Unknown, run, text + asks)


class Asks(unittest.TestCase):
    def assert_answers(self, asks, *right):
        found = asked(asks)
        self.assertIsInstance(found, tuple)
        self.assertEqual(found, right)
        self.assertEqual([type(each) for each in found], [type(each) for each in right])

    def test_none(self):
        self.assert_answers("")
        self.assertEqual(run("letters a;"), ())
        self.assertEqual(run("letters a; kinds K = a > _;"), ())

    def test_has(self):
        self.assert_answers("ask has A abb; ask has A _; ask has B bb; ask has B b;", True, False, True, False)
        self.assert_answers("ask has A " + "a" * 40 + ";", False)
        self.assert_answers("ask has A a" + "b" * 39 + ";", True)

    def test_comes(self):
        self.assert_answers("ask comes B K b; ask comes B K _; ask comes B K bbb; ask comes B K a;",
                            True, True, False, False)
        self.assert_answers("kinds M = b > a, a > _; ask comes B M aa; ask comes B M ba; ask comes B M _;",
                            True, True, True)

    def test_bears(self):
        self.assert_answers("ask bears A K; book C = .*; ask bears C K; kinds M = bb > b; ask bears A M;"
                            "kinds N = ab > b; ask bears A N;", False, True, True, False)
        self.assert_answers("book C = b* a b*; kinds M = b > _, _ > b; ask bears C M;", True)

    def test_apart(self):
        self.assert_answers("ask apart A B K; kinds M = a > b; ask apart A B M; ask apart A A K;"
                            "kinds N = a > _, b > _; ask apart A B N;", True, False, False, False)

    def test_same(self):
        self.assert_answers("ask same A A; ask same A B; book C = a | a b+; ask same A C; ask same C A;",
                            True, False, True, True)

    def test_fewest(self):
        self.assert_answers("ask fewest abb a K; ask fewest a abb K; ask fewest _ _ K; ask fewest bbbbbbbb _ K;",
                            2, None, 0, 8)
        self.assert_answers("kinds M = _ > a, aaa > b; ask fewest _ bb M; ask fewest a b M;", 8, 3)

    def test_end(self):
        self.assert_answers("ask end abb K; ask end bb K; ask end _ K;", "a", "", "")
        self.assert_answers("kinds M = ab > b, ab > a, aab > _; ask end aabab M; ask end ab M;", "b", "b")
        self.assert_answers("ask end " + "ab" * 20 + " K;", "a" * 20)

    def test_count(self):
        self.assert_answers("ask count A 0; ask count A 1; ask count A 40; book C = .*; ask count C 40; ask count C 0;",
                            0, 1, 1, 2 ** 40, 1)

    def test_all_in_order(self):
        self.assert_answers("ask count A 1; ask has A a; ask end b K; ask fewest b b K; ask fewest b a K;"
                            "ask same B B; ask count A 1; ask apart B B K; ask bears B K; ask comes B K b;",
                            1, True, "", 0, None, True, 1, False, False, True)

    def test_books_of_books(self):
        self.assert_answers("book C = A & . . | B; book D = (C a)* - _; ask count D 3; ask has D abaababb; ask has D _;"
                            "ask has D abaababba; ask count C 2;", 2, False, False, True, 2)
        self.assert_answers("book AA = A A; book AAA = AA - A; ask has AAA aab; ask has AAA abb; ask has AA abab;",
                            True, False, True)
        self.assert_answers("book C = B*; ask count C 4; ask count C 3;", 1, 0)

    def test_names_told_ahead_are_meant(self):
        text = "letters ab; book A = a; ask has A a; book B = A b; ask has B ab; kinds K = a > b; ask end b L;"
        self.assertRaises(Unknown, run, text)
        self.assertRaises(BadMender, run, text.replace("end b L", "end b K"))

    def test_no_blanks(self):
        self.assertEqual(run("letters ab;book A=ab*;kinds K=b>_;ask has A_;ask fewest__K;ask end_K;"), (False, 0, ""))

    def test_programs_put_together(self):
        chance = random.Random(120)
        for _ in range(150):
            letters = chance.choice(("a", "ab", "abc"))
            books = {name: " ".join(random_pieces(chance, letters, chance.randint(1, 4))) for name in "AB"}
            kinds = random_kinds(chance, letters) or (("a", ""),)
            text, other = ("".join(chance.choices(letters, k=chance.randint(0, 3))) for _ in range(2))
            sides = [each or "_" for each in (text, other)]
            program = (f"letters {letters}; book A = {books['A']}; book B = {books['B']}; kinds K = "
                       + ", ".join(f"{left or '_'} > {right or '_'}" for left, right in kinds)
                       + f"; ask has A {sides[0]}; ask comes A K {sides[1]}; ask bears B K; ask apart A B K;"
                       + f"ask same A B; ask fewest {sides[0]} {sides[1]} K; ask count B 3;")
            if first_error(program):
                continue
            is_mender = all(len(left) > len(right) for left, right in kinds)
            if is_mender:
                program += f"ask end {sides[0]} K;"
            try:
                one, two = reader_of(letters, books["A"]), reader_of(letters, books["B"])
                right = (verdict(one, text), verdict(comes(one, kinds), other), bears(two, kinds),
                         are_apart(one, two, kinds), are_alike(one, two), fewest(letters, kinds, text, other),
                         count(two, 3)) + ((mended(letters, kinds, text),) if is_mender else ())
            except TooMany:
                self.assertRaises(TooMany, run, program)
                continue
            self.assertEqual(run(program), right, program)
            self.assertEqual(run(printed(program)), right)


class Errors(unittest.TestCase):
    def assert_error(self, error, asks, ahead=AHEAD, **fields):
        text = ahead + asks
        with self.assertRaises(ScribeError) as caught:
            run(text)
        self.assertIs(type(caught.exception), error, text)
        self.assertEqual({name: getattr(caught.exception, name) for name in fields}, fields)

    def test_no_text(self):
        for value in ANY:
            if not isinstance(value, str):
                self.assertRaises(NotText, run, value)
            else:
                self.assertRaises(InvalidText, run, value)

    def test_errors_of_check(self):
        self.assert_error(InvalidText, "ask has A", place=len(AHEAD) + 9)
        self.assert_error(InvalidText, "ask has A 3;", place=len(AHEAD) + 10)
        self.assert_error(InvalidText, " " * 2000, place=2000)
        self.assert_error(BadLetters, "", "letters ba;")
        self.assert_error(NoLetter, "ask has A c;", letter="c")
        self.assert_error(Unknown, "ask has C a;", name="C")
        self.assert_error(Unknown, "ask bears K A;", name="K")
        self.assert_error(Twice, "book K = a;", name="K")
        self.assert_error(BadKind, "kinds M = a > a;")
        self.assert_error(BadKinds, "kinds M = a > b, a > b;")

    def test_errors_of_check_are_ahead_of_all_else(self):
        self.assert_error(NoLetter, f"book C = {MANY}; ask has A c;", letter="c")
        self.assert_error(InvalidText, f"book C = {MANY}; ask", place=len(AHEAD) + len(f"book C = {MANY}; ask"))
        self.assert_error(Twice, "kinds M = a > b; ask end a M; book A = a;", name="A")
        self.assert_error(Unknown, "ask fewest aaaaaaaaa a K; ask has C a;", name="C")
        self.assert_error(BadKinds, "ask fewest aaaaaaaaa a K; kinds M = a > b, a > b;")

    def test_too_many_of_a_book(self):
        self.assert_error(TooMany, f"book C = {MANY};", most=200)
        self.assert_error(TooMany, f"book C = {MANY} & a; ask has A a;", most=200)
        self.assert_error(TooMany, f"book C = a ({MANY});", most=200)
        self.assert_error(TooMany, f"book C = (aaa)*; book D = ({'a' * 40} {'a' * 27})*; book E = C & D;", "letters a;",
                          most=200)
        self.assertIsNone(check(AHEAD + f"book C = {MANY};"))

    def test_too_many_of_what_comes(self):
        reader = reader_of("ab", "b b* aabb . bbbb")
        self.assertGreater(fewest_stands(plain_comes(reader, (("", "a"),))), 200)
        self.assert_error(TooMany, "ask comes W L _;", WILD, most=200)
        self.assert_error(TooMany, "ask apart W W L;", WILD, most=200)
        self.assert_error(TooMany, "ask comes W M _; ask comes W L _;", WILD, most=200)
        # What is not asked of it does no harm.
        self.assertEqual(asked("ask bears W L; ask fewest b ab L; ask count W 9; ask comes W M _;", WILD),
                         (False, 1, 0, False))

    def test_no_mender(self):
        self.assert_error(BadMender, "kinds M = a > b; ask end a M;")
        self.assert_error(BadMender, "kinds M = ab > _, _ > b; ask end a M;")
        self.assertEqual(asked("kinds M = a > b; ask fewest a b M;"), (1,))

    def test_too_long(self):
        self.assert_error(TooLong, "ask fewest aaaaaaaaa a K;", most=8)
        self.assert_error(TooLong, "ask fewest a aaaaaaaaa K;", most=8)
        self.assert_error(TooLong, f"ask fewest {'a' * 40} {'a' * 40} K;", most=8)
        self.assertEqual(asked("ask fewest aaaaaaaa aaaaaaaa K;"), (0,))

    def test_the_earlier_statement(self):
        long, mender, many = "ask fewest a aaaaaaaaa K;", "kinds M = a > b; ask end a M;", f"book C = {MANY};"
        for first, error in ((long, TooLong), (mender, BadMender), (many, TooMany)):
            for second in (long, mender, many):
                if first != second:
                    self.assert_error(error, f"ask has A a; {first} {second} ask has A a;")

    def test_errors_are_of_run_alone(self):
        for asks in ("ask fewest a aaaaaaaaa K;", "kinds M = a > b; ask end a M;", f"book C = {MANY};"):
            self.assertIsNone(check(AHEAD + asks))
            self.assertTrue(printed(AHEAD + asks))


if __name__ == "__main__":
    unittest.main()
