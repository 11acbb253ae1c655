"""[1]: any values, the errors in their order, integers that are never bools, nothing handed in changed."""

import copy
import unittest
from itertools import product

from anyscribe import (books, copying, desks, menders, parting, printing, reading, readers, running, standing, texts,
                       ways)
from anyscribe.errors import (BadDeed, BadKinds, BadLetters, BadLots, BadMender, BadNumber, BadReader, BadReaders,
                              BadText, BadTexts, NotApart, NotText, NoWay, ScribeError, TooLong, TooMany, Unlike)
from tests.support import A_MANY_B, A_ONE_B, ANY, ascending

ALL_YES = ("abcd", ((0, 0, 0, 0),), (True,))

# For each sort of parameter: its error, a right value, which of ANY are right as well, and some nearly right ones.
LETTERS = (BadLetters, "ab", ("a", "ab"), (("a", "b"), ["a", "b"], "aa", "abcde", "ba"))
KINDS = (BadKinds, (("a", ""), ("a", "b")), ((), (("a", ""),)),
         ([], [("a", "")], (["a", ""],), (("a", "a"),), (("a", ""), ("a", "")), (("abab", ""),), (("a", "ab"),),
          ((True, ""),), (("a", None),), (("a", "", ""),), ("a", "b")))
TEXT = (BadText, "aba", ("", "a", "ab", "ba", "aab", "a" * 40), (("a", "b"), ["a"], "abc", "a" * 41, "A"))
DEED = (BadDeed, (0, "a", ""), ((0, "a", ""),),
        ((False, "a", ""), (True, "a", ""), [0, "a", ""], (0, "a"), (0, "a", "", ""), (1, "a", ""), (0, "b", ""),
         (0, "a", "a"), (-1, "a", ""), (3, "a", ""), ("0", "a", ""), (0, ("a",), ""), (0, "a", None)))
READER = (BadReader, A_MANY_B, (("ab", ((0, 0),), (True,)),),
          (list(A_MANY_B), ("ab", ((False, 0),), (True,)), ("ab", ((0, 0),), (1,)), ("ab", ((0, 0),), (0,)),
           ("ab", [(0, 0)], (True,)), ("ab", ([0, 0],), (True,)), ("ab", ((0, 0),), [True]),
           ("ba", ((0, 0),), (True,)), ("ab", (), ()), ("ab", ((0, 1),), (True,))))
OTHER = (BadReader, A_ONE_B, READER[2], READER[3])
NUMBER = (BadNumber, 3, (0, 1, 2, 40), (True, False, None, -1, 41, "3", (3,), [3]))
LOTS = (BadLots, (KINDS[1], ()), ((), ((), ()), KINDS[1:2]),
        ([], [()], (None,), ((), [("a", "")]), ((), (("c", ""),)), ((),) * 5, KINDS[1]))
SMALL = (BadNumber, 3, (0, 1, 2, 4), (True, False, None, -1, 5, "1", (1,), [1]))
FIVE = (BadNumber, 5, (0, 1, 2, 4), (True, False, None, -1, 6, "1", (1,), [1]))
THREE = (BadNumber, 3, (0, 1, 2), (True, False, None, -1, 4, "1", (1,), [1]))
MENDER = (BadKinds, (("aa", ""), ("aab", "b")), ((), (("a", ""),)), KINDS[3])
TEXTS = (BadTexts, ("a", "ba"), ((), ("a", ""), ("a", "a"), ("a" * 8,) * 20),
         (["a"], "a", ("a" * 9,), ("a",) * 21, ("c",), (None,), (("a",),)))
DESK_READERS = (BadReaders, (A_MANY_B,), ((), (A_ONE_B, A_MANY_B)), ([A_MANY_B], (None,), (ALL_YES,), A_MANY_B))
# Any value is right here.
ROW = (None, ((0, "a", ""),), ANY, ())


def new_desk_copy(kinds, deed):
    return desks.Desk("ab", "aba").copy(kinds, deed)


def new_desk_mend(mender):
    return desks.Desk("ab", "aba").mend(mender)


def new_desk_verdicts(told):
    return desks.Desk("ab", "aba").verdicts(told)


FUNCTIONS = (
    (texts.deeds, (LETTERS, KINDS, TEXT)),
    (texts.done, (LETTERS, KINDS, TEXT, DEED)),
    (texts.copies, (LETTERS, KINDS, TEXT)),
    (readers.verdict, (READER, TEXT)),
    (readers.stands_come_to, (READER,)),
    (readers.least, (READER,)),
    (readers.are_alike, (READER, OTHER)),
    (readers.parting, (READER, OTHER)),
    (readers.both, (READER, OTHER)),
    (readers.either, (READER, OTHER)),
    (readers.less, (READER, OTHER)),
    (readers.least_text, (READER,)),
    (readers.count, (READER, NUMBER)),
    (readers.listed, (READER, NUMBER)),
    (readers.is_endless, (READER,)),
    (copying.comes, (READER, KINDS)),
    (copying.comes_in_order, (READER, LOTS)),
    (copying.comes_by, (READER, KINDS, SMALL)),
    (copying.is_kept, (READER, KINDS)),
    (copying.are_orders_alike, (READER, KINDS, KINDS)),
    (ways.fewest, (LETTERS, KINDS, TEXT, TEXT)),
    (ways.way, (LETTERS, KINDS, TEXT, TEXT)),
    (ways.origin, (READER, KINDS, TEXT)),
    (ways.leads, (LETTERS, KINDS, TEXT, ROW, TEXT)),
    (standing.bears, (READER, KINDS)),
    (standing.turned, (READER, KINDS)),
    (standing.borne, (READER,)),
    (standing.paper, (READER, KINDS)),
    (standing.judged, (READER, KINDS, ROW)),
    (parting.are_apart, (READER, OTHER, KINDS)),
    (parting.meeting, (READER, OTHER, KINDS)),
    (parting.teller, (READER, OTHER, KINDS)),
    (parting.most_kinds, (READER, OTHER, KINDS)),
    (parting.can_meet, (LETTERS, KINDS, TEXT, TEXT)),
    (parting.greatest_lot, (LETTERS, KINDS, FIVE)),
    (menders.mended, (LETTERS, MENDER, TEXT)),
    (menders.mending, (LETTERS, MENDER, TEXT)),
    (menders.is_one_way, (LETTERS, MENDER)),
    (menders.overlap, (LETTERS, MENDER)),
    (menders.failing, (LETTERS, KINDS, THREE, MENDER, TEXTS)),
    (menders.brings_back, (LETTERS, KINDS, THREE, MENDER, TEXTS)),
    (desks.Desk, (LETTERS, TEXT)),
    (new_desk_copy, (KINDS, DEED)),
    (new_desk_mend, (MENDER,)),
    (new_desk_verdicts, (DESK_READERS,)),
)
# What functions may raise of right values as they are put together here.
MAY_RAISE = {texts.done: BadDeed, new_desk_copy: BadDeed, parting.teller: NotApart, ways.fewest: TooLong,
             ways.way: (TooLong, NoWay), ways.origin: (TooLong, NoWay)}


def is_same(one, other):
    """Equal, and no bool for an integer, within tuples too."""
    if isinstance(one, tuple) and isinstance(other, tuple):
        return len(one) == len(other) and all(is_same(*each) for each in zip(one, other))
    return type(one) is type(other) and one == other


def wrong_values(sort):
    right, near = sort[2], sort[3]
    return [value for value in ANY if not any(is_same(value, each) for each in right)] + list(near)


class WrongValues(unittest.TestCase):
    def assert_raises(self, error, function, values):
        before = copy.deepcopy(values)
        with self.assertRaises(error) as caught:
            function(*values)
        self.assertIs(type(caught.exception), error)
        self.assertIsInstance(caught.exception, ScribeError)
        self.assertIsInstance(caught.exception, ValueError)
        self.assertEqual(values, before)
        return caught.exception

    def test_each_parameter_takes_any_value(self):
        for function, sorts in FUNCTIONS:
            for at, sort in enumerate(sorts):
                for value in wrong_values(sort) if sort[0] else ():
                    values = [each[1] for each in sorts]
                    values[at] = value
                    with self.subTest(function=function.__name__, at=at):
                        self.assert_raises(sort[0], function, values)

    def test_each_parameter_takes_right_values(self):
        for function, sorts in FUNCTIONS:
            for at, sort in enumerate(sorts):
                for value in (sort[1],) + sort[2]:
                    values = [each[1] for each in sorts]
                    values[at] = value
                    if sort is LETTERS and value == "a":
                        continue
                    with self.subTest(function=function.__name__, at=at, value=value):
                        before = copy.deepcopy(values)
                        try:
                            function(*values)
                        except MAY_RAISE.get(function, ()):
                            pass
                        self.assertEqual(values, before)

    def test_first_wrong_one_raises(self):
        # Several wrong values at once: of each sort one that is far off, one that is near, one that has no hash.
        for function, sorts in FUNCTIONS:
            choices = [(sort[1], None, {"a": [1]}) + (sort[3][:1] + sort[3][-1:]) for sort in sorts]
            for row in product(*[range(len(choice)) for choice in choices]):
                wrong = [at for at, which in enumerate(row) if which > 0 and sorts[at][0]]
                if wrong:
                    values = [choice[which] for choice, which in zip(choices, row)]
                    self.assert_raises(sorts[wrong[0]][0], function, values)

    def test_unlike_stands_behind_both_readers(self):
        for function in (parting.are_apart, parting.meeting, parting.teller, parting.most_kinds):
            self.assert_raises(Unlike, function, [A_MANY_B, ALL_YES, None])
            self.assert_raises(BadReader, function, [ALL_YES, None, None])
        for function in (readers.are_alike, readers.parting, readers.both, readers.either, readers.less):
            self.assert_raises(Unlike, function, [A_MANY_B, ALL_YES])
            self.assert_raises(Unlike, function, [ALL_YES, A_MANY_B])
            self.assert_raises(BadReader, function, [ALL_YES, ("ab", (), ())])
            self.assert_raises(BadReader, function, [("ab", (), ()), ALL_YES])

    def test_too_long_stands_behind_the_deed(self):
        kinds = (("", "a"),)
        error = self.assert_raises(TooLong, texts.done, ["ab", kinds, "a" * 40, (0, "", "a")])
        self.assertEqual(error.most, 40)
        self.assert_raises(BadDeed, texts.done, ["ab", kinds, "a" * 40, (41, "", "a")])
        self.assert_raises(BadText, texts.done, ["ab", kinds, "a" * 41, (0, "", "a")])
        error = self.assert_raises(TooLong, texts.copies, ["ab", kinds, "a" * 40])
        self.assertEqual(error.most, 40)

    def test_no_mender_stands_where_the_kinds_do(self):
        bad = (("a", "b"),)
        for function in (menders.mended, menders.mending):
            self.assert_raises(BadMender, function, ["ab", bad, None])
        for function in (menders.is_one_way, menders.overlap):
            self.assert_raises(BadMender, function, ["ab", bad])
        for function in (menders.failing, menders.brings_back):
            self.assert_raises(BadMender, function, ["ab", (), 0, bad, None])
            self.assert_raises(BadNumber, function, ["ab", (), None, bad, None])
            self.assert_raises(BadTexts, function, ["ab", (), 0, (), None])
        self.assert_raises(BadMender, new_desk_mend, [bad])

    def test_texts_to_be_read(self):
        for function in (running.run, reading.check, printing.printed, desks.desk_of):
            for value in ANY:
                if not isinstance(value, str):
                    self.assert_raises(NotText, function, [value])

    def test_too_many_stands_behind_the_number(self):
        error = self.assert_raises(TooMany, readers.listed, [ALL_YES, 40])
        self.assertEqual(error.most, 500)
        self.assert_raises(BadNumber, readers.listed, [ALL_YES, 41])


class Values(unittest.TestCase):
    def test_is_reader_takes_any_value(self):
        for value in ANY:
            right = is_same(value, ("ab", ((0, 0),), (True,)))
            self.assertIs(readers.is_reader(value), right)

    def test_is_and_are_tell_bools(self):
        self.assertIs(readers.is_reader(A_MANY_B), True)
        self.assertIs(readers.is_reader(A_MANY_B[:2]), False)
        self.assertIs(readers.are_alike(A_MANY_B, A_MANY_B), True)
        self.assertIs(readers.are_alike(A_MANY_B, A_ONE_B), False)
        self.assertIs(readers.is_endless(A_MANY_B), True)
        self.assertIs(readers.is_endless(A_ONE_B), False)
        self.assertIs(readers.verdict(A_MANY_B, "a"), True)
        self.assertIs(readers.verdict(A_MANY_B, "b"), False)
        self.assertIs(copying.is_kept(A_MANY_B, (("b", "a"),)), False)
        self.assertIs(copying.is_kept(A_MANY_B, (("b", ""),)), True)
        self.assertIs(copying.are_orders_alike(A_MANY_B, (), ()), True)
        self.assertIs(copying.are_orders_alike(A_MANY_B, (("a", "b"),), (("bb", ""),)), False)

    def test_equal_calls_have_equal_answers(self):
        calls = ((texts.deeds, ("ab", KINDS[1], "aba")), (texts.copies, ("ab", KINDS[1], "aba")),
                 (readers.least, (A_ONE_B,)), (readers.both, (A_MANY_B, A_ONE_B)),
                 (readers.parting, (A_MANY_B, A_ONE_B)), (readers.listed, (ALL_YES, 3)),
                 (books.reader_of, ("ab", "(a | ab)* - b")), (printing.printed, ("letters ab; book B = (a)(b);",)),
                 (reading.check, ("letters ab; book B = (a)(b);",)),
                 (copying.comes, (A_ONE_B, KINDS[1])), (copying.comes_by, (A_ONE_B, KINDS[1], 4)),
                 (ways.way, ("ab", KINDS[1], "abaa", "bb")), (ways.origin, (A_MANY_B, KINDS[1], "bb")),
                 (standing.turned, (A_MANY_B, KINDS[1])), (standing.borne, (A_MANY_B,)),
                 (standing.paper, (A_MANY_B, (("bb", "b"),))),
                 (parting.meeting, (A_ONE_B, A_MANY_B, KINDS[1])), (parting.greatest_lot, ("ab", (("ab", "b"),), 4)),
                 (parting.most_kinds, (A_ONE_B, ("ab", ((0, 1), (1, 1)), (False, True)), KINDS[1])),
                 (menders.mending, ("ab", MENDER[1], "aabaa")), (menders.overlap, ("ab", MENDER[1])),
                 (menders.failing, ("ab", KINDS[1], 2, MENDER[1], ("ab", "b"))),
                 (running.run, ("letters ab; book A = a b*; kinds K = b > _; ask comes A K a; ask fewest b _ K;",)))
        for function, values in calls:
            self.assertEqual(function(*values), function(*copy.deepcopy(values)))

    def test_texts_ascend_by_length_first(self):
        found = texts.copies("ab", (("b", ""), ("", "a")), "ba")
        self.assertEqual(found, ("a", "aba", "baa"))
        self.assertEqual(found, ascending(found))
        self.assertEqual(readers.parting(("ab", ((1, 1), (1, 1)), (False, True)),
                                         ("ab", ((1, 2), (1, 1), (2, 2)), (False, True, False))), "b")


if __name__ == "__main__":
    unittest.main()
