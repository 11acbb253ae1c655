"""[20]: Desk, desk_of."""

import random
import unittest

from anyscribe.books import reader_of
from anyscribe.desks import Desk, desk_of
from anyscribe.errors import (BadDeed, BadKinds, BadLetters, BadMender, BadReaders, BadText, InvalidDesk, NothingDone,
                              NotText, ScribeError, TooLong)
from anyscribe.readers import verdict
from anyscribe.texts import deeds
from tests.scribes import led, plain_copy, random_kinds
from tests.support import ANY, random_readers
from tests.test_menders import plain_mending, random_mender

KINDS = (("a", "b"), ("", "b"), ("ab", ""))
STORY = "letters ab\ntext aab\n1 a > b\n0 _ > b\n1 ab > _\n"


def state_of(desk):
    return desk.text(), desk.row(), desk.story()


class Desks(unittest.TestCase):
    def assert_state(self, desk, text, row, first="aab"):
        self.assertEqual(desk.text(), text)
        self.assertEqual(desk.row(), row)
        lines = [f"{place} {left or '_'} > {right or '_'}\n" for place, left, right in row]
        self.assertEqual(desk.story(), f"letters ab\ntext {first or '_'}\n" + "".join(lines))

    def assert_refused(self, error, desk, call, *values):
        """The error is raised, and the desk is as it was."""
        before = state_of(desk)
        with self.assertRaises(ScribeError) as caught:
            call(*values)
        self.assertIs(type(caught.exception), error)
        self.assertEqual(state_of(desk), before)
        return caught.exception


class Steps(Desks):
    def test_example(self):
        desk = Desk("ab", "aab")
        desk.copy((("a", "b"),), (1, "a", "b"))
        desk.mend((("bb", "b"),))
        self.assertEqual(desk.text(), "ab")
        self.assertEqual(desk.row(), ((1, "a", "b"), (1, "bb", "b")))
        self.assertEqual(desk.verdicts((reader_of("ab", "ab"), reader_of("ab", "b*"))), (True, False))
        desk.undo()
        self.assertEqual(desk.text(), "abb")
        self.assertEqual(desk.story(), "letters ab\ntext aab\n1 a > b\n")
        self.assertEqual(desk_of(desk.story()).text(), "abb")

    def test_new(self):
        self.assert_state(Desk("ab", "aab"), "aab", ())
        self.assert_state(Desk("ab", ""), "", (), "")
        self.assert_state(Desk("ab", "ab" * 20), "ab" * 20, (), "ab" * 20)
        self.assertEqual(Desk("z", "").story(), "letters z\ntext _\n")
        self.assertEqual(Desk("akxz", "zax").story(), "letters akxz\ntext zax\n")

    def test_methods_are_of_the_class(self):
        for name in ("copy", "mend", "undo", "text", "row", "verdicts", "story"):
            self.assertIn(name, vars(Desk))

    def test_several_steps(self):
        desk = Desk("ab", "aab")
        desk.copy(KINDS, (1, "a", "b"))
        self.assert_state(desk, "abb", ((1, "a", "b"),))
        desk.copy(KINDS, (0, "", "b"))
        self.assert_state(desk, "babb", ((1, "a", "b"), (0, "", "b")))
        desk.copy((("ab", ""),), (1, "ab", ""))
        row = ((1, "a", "b"), (0, "", "b"), (1, "ab", ""))
        self.assert_state(desk, "bb", row)
        self.assertEqual(desk.story(), STORY)
        desk.mend((("b", ""), ("bb", "a")))
        self.assert_state(desk, "a", row + ((0, "bb", "a"),))
        desk.mend((("bb", "a"), ("a", "")))
        self.assert_state(desk, "", row + ((0, "bb", "a"), (0, "a", "")))
        desk.undo()
        desk.undo()
        self.assert_state(desk, "bb", row)
        desk.copy((("", "a"),), (1, "", "a"))
        self.assert_state(desk, "bab", row + ((1, "", "a"),))
        for left in (3, 2, 1, 0):
            desk.undo()
            self.assertEqual(desk.row(), row[:left])
        self.assert_state(desk, "aab", ())
        self.assert_refused(NothingDone, desk, desk.undo)

    def test_mend_is_one_step(self):
        desk = Desk("ab", "aabb")
        desk.mend((("ab", ""),))
        self.assert_state(desk, "", ((1, "ab", ""), (0, "ab", "")), "aabb")
        desk.undo()
        self.assert_state(desk, "aabb", (), "aabb")
        self.assert_refused(NothingDone, desk, desk.undo)

    def test_mend_that_does_nothing(self):
        desk = Desk("ab", "aab")
        desk.mend((("bb", ""),))
        desk.mend(())
        self.assert_state(desk, "aab", ())
        self.assert_refused(NothingDone, desk, desk.undo)
        desk.copy(KINDS, (0, "a", "b"))
        desk.mend((("bb", ""),))
        self.assert_state(desk, "bab", ((0, "a", "b"),))
        desk.undo()
        self.assert_state(desk, "aab", ())
        self.assert_refused(NothingDone, desk, desk.undo)

    def test_methods_return_nothing_else(self):
        desk = Desk("ab", "aab")
        self.assertEqual([desk.copy(KINDS, (0, "a", "b")), desk.mend((("a", ""),)), desk.undo()], [None] * 3)

    def test_desks_do_not_share_anything(self):
        one, other = Desk("ab", "aab"), Desk("ab", "aab")
        one.copy(KINDS, (0, "a", "b"))
        self.assert_state(other, "aab", ())
        self.assert_refused(NothingDone, other, other.undo)

    def test_random_steps(self):
        chance = random.Random(130)
        for _ in range(60):
            first = "".join(chance.choices("ab", k=chance.randint(0, 6)))
            desk, steps = Desk("ab", first), []
            for _ in range(chance.randint(0, 12)):
                row = tuple(deed for step, _ in steps for deed in step)
                now = led(tuple(deed[1:] for deed in row), first, row)[0]
                self.assert_state(desk, now, row, first)
                kinds, mender, action = random_kinds(chance, "ab"), random_mender(chance, "ab"), chance.randint(0, 3)
                if action < 2 and deeds("ab", kinds, now):
                    deed = chance.choice(deeds("ab", kinds, now))
                    desk.copy(kinds, deed)
                    steps.append(((deed,), now))
                elif action == 2:
                    desk.mend(mender)
                    if plain_mending(mender, now)[0]:
                        steps.append((plain_mending(mender, now)[0], now))
                elif steps:
                    desk.undo()
                    self.assertEqual(desk.text(), steps.pop()[1])
                else:
                    self.assert_refused(NothingDone, desk, desk.undo)
            read = desk_of(desk.story())
            self.assertEqual(state_of(read), state_of(desk))


class Refused(Desks):
    def test_new(self):
        for value in ANY:
            if value not in ("a", "ab"):
                self.assertRaises(BadLetters, Desk, value, value)
            if not (isinstance(value, str) and set(value) <= set("ab") and len(value) <= 40):
                self.assertRaises(BadText, Desk, "ab", value)
        self.assertRaises(BadText, Desk, "ab", "a" * 41)

    def test_copy(self):
        desk = Desk("ab", "aab")
        desk.copy(KINDS, (1, "a", "b"))
        for value in ANY:
            if value not in ((), (("a", ""),)):
                self.assert_refused(BadKinds, desk, desk.copy, value, value)
                self.assert_refused(BadKinds, desk, desk.copy, value, (0, "a", "b"))
            if not isinstance(value, tuple) or value != (0, "a", ""):
                self.assert_refused(BadDeed, desk, desk.copy, KINDS + (("a", ""),), value)
        for deed in ((1, "a", "b"), (0, "a", ""), (4, "", "b"), (False, "a", "b"), [0, "a", "b"], (0, "b", "a")):
            self.assert_refused(BadDeed, desk, desk.copy, KINDS, deed)
        self.assert_refused(BadDeed, desk, desk.copy, (), (0, "a", "b"))
        self.assert_refused(BadKinds, desk, desk.copy, (("c", ""),), (0, "a", "b"))

    def test_copy_of_forty_letters(self):
        desk = Desk("ab", "a" * 40)
        for place in (0, 20, 40):
            error = self.assert_refused(TooLong, desk, desk.copy, KINDS, (place, "", "b"))
            self.assertEqual(error.most, 40)
        self.assert_refused(BadDeed, desk, desk.copy, KINDS, (41, "", "b"))
        desk.copy(KINDS, (39, "a", "b"))
        desk.copy(KINDS, (38, "ab", ""))
        desk.copy(KINDS, (38, "", "b"))
        desk.copy(KINDS, (38, "", "b"))
        self.assert_refused(TooLong, desk, desk.copy, KINDS, (38, "", "b"))
        self.assertEqual(desk.text(), "a" * 38 + "bb")

    def test_mend(self):
        desk = Desk("ab", "aab")
        desk.copy(KINDS, (1, "a", "b"))
        for value in ANY:
            if value not in ((), (("a", ""),)):
                self.assert_refused(BadKinds, desk, desk.mend, value)
        for mender in ((("a", "b"),), (("ab", ""), ("", "b")), (("ab", ""), ("b", "a"))):
            self.assert_refused(BadMender, desk, desk.mend, mender)
        self.assert_refused(BadKinds, desk, desk.mend, (("a", "b"), ("c", "")))
        self.assert_refused(BadKinds, desk, desk.mend, (("a", "b"), ("a", "b")))

    def test_errors_do_not_count_as_steps(self):
        desk = Desk("ab", "aab")
        self.assert_refused(BadMender, desk, desk.mend, (("a", "b"),))
        self.assert_refused(BadDeed, desk, desk.copy, KINDS, None)
        self.assert_refused(NothingDone, desk, desk.undo)


class Verdicts(Desks):
    def test_ordinary(self):
        desk = Desk("ab", "aab")
        self.assertEqual(desk.verdicts(()), ())
        readers = (reader_of("ab", "aab"), reader_of("ab", "a*"), reader_of("ab", "a* b"), reader_of("ab", "_"))
        self.assertEqual(desk.verdicts(readers), (True, False, True, False))
        desk.copy(KINDS, (1, "ab", ""))
        self.assertEqual(desk.verdicts(readers), (False, True, False, False))
        self.assertEqual(desk.verdicts(readers[1:2] * 3), (True, True, True))
        self.assertEqual(Desk("ab", "").verdicts(readers), (False, True, False, True))

    def test_against_verdict(self):
        for text in ("", "aab", "ba" * 20):
            desk = Desk("ab", text)
            readers = tuple(random_readers(131, 20, ("ab",)))
            self.assertEqual(desk.verdicts(readers), tuple(verdict(reader, text) for reader in readers))

    def test_bad_readers(self):
        desk = Desk("ab", "aab")
        right = reader_of("ab", "a")
        for value in ANY:
            if not isinstance(value, tuple) or value != ():
                self.assert_refused(BadReaders, desk, desk.verdicts, value)
            if value != ("ab", ((0, 0),), (True,)):
                self.assert_refused(BadReaders, desk, desk.verdicts, (right, value))
        for value in ([right], [], right, (reader_of("a", "a"),), (right, reader_of("abc", "a")), (right, right[:2]),
                      (reader_of("bc", "b"),), {0: right}, ((right,),), (list(right),)):
            self.assert_refused(BadReaders, desk, desk.verdicts, value)


class Stories(Desks):
    def assert_invalid(self, at, text):
        with self.assertRaises(InvalidDesk) as caught:
            desk_of(text)
        self.assertEqual(caught.exception.at, at, text)

    def test_told_again(self):
        for text in ("letters ab\ntext _\n", "letters abcd\ntext dcba\n", STORY,
                     "letters z\ntext _\n0 _ > z\n0 z > _\n",
                     "letters ab\ntext " + "a" * 40 + "\n39 a > b\n37 aab > _\n"):
            desk = desk_of(text)
            self.assertIsInstance(desk, Desk)
            self.assertEqual(desk.story(), text)
        desk = desk_of(STORY)
        self.assert_state(desk, "bb", ((1, "a", "b"), (0, "", "b"), (1, "ab", "")))

    def test_each_deed_is_one_step(self):
        desk = Desk("ab", "aabb")
        desk.mend((("ab", ""),))
        read = desk_of(desk.story())
        self.assertEqual(state_of(read), state_of(desk))
        read.undo()
        self.assertEqual(read.text(), "ab")
        read.undo()
        self.assertEqual(read.text(), "aabb")
        self.assert_refused(NothingDone, read, read.undo)

    def test_goes_on(self):
        desk = desk_of(STORY)
        desk.mend((("bb", ""),))
        self.assertEqual(desk.story(), STORY + "0 bb > _\n")
        desk.undo()
        desk.undo()
        self.assertEqual(desk.text(), "babb")

    def test_no_text(self):
        for value in ANY:
            if not isinstance(value, str):
                self.assertRaises(NotText, desk_of, value)
            else:
                self.assertRaises(InvalidDesk, desk_of, value)

    def test_ends_too_early(self):
        self.assert_invalid(0, "")
        self.assert_invalid(1, "letters ab\n")
        # What stands behind the last line end is a line that cannot stand there.
        self.assert_invalid(0, "letters ab")
        self.assert_invalid(1, "letters ab\ntext aab")
        self.assert_invalid(1, "letters ab\nt")
        self.assert_invalid(2, "letters ab\ntext aab\n1 a > b")
        self.assert_invalid(4, STORY[:-1])
        self.assert_invalid(5, STORY + " ")
        self.assert_invalid(5, STORY + "0 b > _")
        self.assert_invalid(0, "\n")
        self.assert_invalid(0, "\n\n")
        self.assert_invalid(0, "ab\n")

    def test_the_first_wrong_line(self):
        self.assert_invalid(0, "letters ba\ntext c\n9 a > b")
        self.assert_invalid(1, "letters ab\ntext c\n9 a > b")
        self.assert_invalid(2, "letters ab\ntext a\n9 a > b\n0 a > b")
        self.assert_invalid(3, "letters ab\ntext a\n0 a > b\n0 a > b\n0 b > a")

    def test_letters(self):
        for line in ("letters", "letters ", "letters  ab", "letters ab ", " letters ab", "Letters ab", "letters ba",
                     "letters aa", "letters abcde", "letters a1", "letters _", "letters a b", "letters AB", "ab",
                     "letter ab", "letters\tab", "letters ab\r", "letters: ab", "text ab", "", " ", "lettersab",
                     "letters \u00e4"):
            self.assert_invalid(0, f"{line}\ntext a\n")
            self.assert_invalid(0, f"{line}\n")
            self.assert_invalid(0, line)

    def test_first_texts(self):
        for line in ("text", "text ", "text  a", "text a ", " text a", "text c", "text a_", "text __", "text _a",
                     "Text a", "text a b", "text " + "a" * 41, "texts a", "a", "", "text A", "text a\t", "text 0",
                     "letters ab", "texta", "text\ta", "text a\r"):
            self.assert_invalid(1, f"letters ab\n{line}\n")
            self.assert_invalid(1, f"letters ab\n{line}\n0 a > b\n")
            self.assert_invalid(1, f"letters ab\n{line}")

    def assert_wrong_deed(self, line, text="aab"):
        start = f"letters ab\ntext {text}\n"
        self.assert_invalid(2, f"{start}{line}\n")
        self.assert_invalid(2, f"{start}{line}\n0 _ > b\n")
        self.assert_invalid(3, f"{start}0 _ > b\n{line}\n")

    def test_forms_of_deeds(self):
        for line in ("", " ", "0", "0 a", "0 a >", "0 a > ", "0 a b", "0 a > b ", " 0 a > b", "0  a > b", "0 a  > b",
                     "0 a >  b", "0 a > b b", "0 a > b > a", "0 a < b", "0 a >b", "0 a> b", "0a > b", "0 a - b",
                     "0\ta > b", "0 a > b\r", "(0 a > b)", "0, a > b", "a > b", "0 > b", "0 a > b\f"):
            self.assert_wrong_deed(line)

    def test_places(self):
        for place in ("00", "01", "+0", "-0", "-1", "0.0", "5", "10", "40", "99999", "9" * 5000, "a", "_", "0x0",
                      "\u0660", "\u00b2", "", "1_0", "1e0", "True"):
            self.assert_wrong_deed(f"{place} _ > b")
        self.assert_invalid(2, "letters ab\ntext aab\n4 _ > b\n")
        self.assert_invalid(2, "letters ab\ntext aab\n3 a > b\n")
        self.assertEqual(desk_of("letters ab\ntext aab\n3 _ > b\n").text(), "aabb")
        self.assertEqual(desk_of("letters ab\ntext aaaaaaaaaaaa\n10 a > b\n").text(), "aaaaaaaaaaba")

    def test_sides(self):
        for line in ("0 _ > _", "0 a > a", "0 aaab > b", "0 aab > ab", "0 a > bb", "0 c > a", "0 a > c", "0 A > b",
                     "0 a_ > b", "0 _a > b", "0 a > _b", "0 __ > b", "0 a > __", "0 a > 1", "0 \u00e4 > b"):
            self.assert_invalid(2, f"letters ab\ntext aaab\n{line}\n")
        self.assertEqual(desk_of("letters ab\ntext aaab\n1 aab > _\n").text(), "a")

    def test_deeds_that_are_none_on_the_text_then(self):
        self.assert_invalid(2, "letters ab\ntext aab\n0 b > _\n")
        self.assert_invalid(2, "letters ab\ntext aab\n1 aab > _\n")
        self.assert_invalid(2, "letters ab\ntext _\n0 a > _\n")
        self.assert_invalid(3, "letters ab\ntext aab\n0 a > b\n0 a > b\n")
        self.assert_invalid(3, "letters ab\ntext a\n0 a > _\n0 a > _\n")
        self.assertEqual(desk_of("letters ab\ntext a\n0 a > _\n0 _ > a\n").text(), "a")

    def test_forty_letters(self):
        start = "letters ab\ntext " + "a" * 40 + "\n"
        self.assert_invalid(2, start + "0 _ > b\n")
        self.assert_invalid(2, start + "40 _ > b\n")
        self.assert_invalid(4, start + "0 a > _\n39 _ > b\n40 _ > b\n")
        self.assertEqual(desk_of(start + "0 a > _\n39 _ > b\n").text(), "a" * 39 + "b")
        self.assert_invalid(1, "letters ab\ntext " + "a" * 41 + "\n0 a > _\n")

    def test_lines_left_out_and_doubled(self):
        lines = STORY.splitlines(keepends=True)
        for at, right in ((0, 0), (1, 1), (2, 3), (3, 3)):
            self.assert_invalid(right, "".join(lines[:at] + lines[at + 1:]))
        for at, right in ((0, 1), (1, 2), (2, 3), (4, 5)):
            self.assert_invalid(right, "".join(lines[:at] + lines[at:at + 1] + lines[at:]))
        self.assertEqual(desk_of("".join(lines[:4] + lines[3:4])).text(), "bbabb")
        self.assert_invalid(1, "".join(lines[:1] + ["\n"] + lines[1:]))
        self.assert_invalid(5, STORY + "\n")
        self.assert_invalid(5, STORY + "\n\n")

    def test_bent_at_each_sign(self):
        for at in range(len(STORY)):
            line = STORY[:at].count("\n")
            for sign in "ab_ >019+-\nzA\t\u00a0":
                for text in (STORY[:at] + sign + STORY[at:], STORY[:at] + sign + STORY[at + 1:],
                             STORY[:at] + STORY[at + 1:]):
                    try:
                        desk = desk_of(text)
                    except InvalidDesk as error:
                        self.assertGreaterEqual(error.at, min(line, 1) if line < 2 else line)
                        self.assertLessEqual(error.at, text.count("\n"))
                    else:
                        # Whatever is read is told again just so.
                        self.assertEqual(desk.story(), text)

    def test_many_deeds(self):
        lines = ["letters ab\n", "text _\n"] + ["0 _ > a\n", "0 a > b\n", "0 b > _\n"] * 500
        desk = desk_of("".join(lines))
        self.assertEqual((desk.text(), len(desk.row())), ("", 1500))
        self.assertEqual(desk.story(), "".join(lines))
        self.assert_invalid(1501, "".join(lines[:-1]) + "1 b > _\n")

    def test_first_text_led_to_the_last(self):
        chance = random.Random(132)
        for _ in range(40):
            text = first = "".join(chance.choices("abc", k=chance.randint(0, 6)))
            row = []
            for _ in range(chance.randint(0, 8)):
                found = deeds("abc", random_kinds(chance, "abc"), text)
                if found:
                    row.append(chance.choice(found))
                    text = plain_copy(text, row[-1])
            story = f"letters abc\ntext {first or '_'}\n" + "".join(
                f"{place} {left or '_'} > {right or '_'}\n" for place, left, right in row)
            desk = desk_of(story)
            self.assertEqual(state_of(desk), (text, tuple(row), story))


if __name__ == "__main__":
    unittest.main()
