"""Books: the readers that expressions tell."""

from anyscribe.checks import check_letters
from anyscribe.expressions import JOINT, MARK, check_steps, steps_from
from anyscribe.lots import any_times, in_row, once_or_more, once_or_not
from anyscribe.machines import explored
from anyscribe.pieces import NAME, WORD, source_of
from anyscribe.readers import both, either, less


def line_reader(letters, choices):
    """The least reader of the texts with a letter of each of the choices, one behind another."""
    many = len(choices)

    def follow(stand):
        if stand >= many:
            return [many + 1 for _ in letters]
        return [stand + 1 if letter in choices[stand] else many + 1 for letter in letters]

    stands, rows = explored(0, follow)
    return (letters, tuple(rows), tuple([stand == many for stand in stands]))


def thing_reader(letters, books, sort, told):
    """The least reader of a word, a name, or one of the signs . and _"""
    if sort == WORD:
        return line_reader(letters, told)
    if sort == NAME:
        return books[told]
    return line_reader(letters, [letters] if told == "." else [])


def marked_reader(mark, reader):
    """The least reader of a part with a mark behind it."""
    if mark == "*":
        return any_times(reader)
    if mark == "+":
        return once_or_more(reader)
    return once_or_not(reader)


def joined_reader(sign, one, other):
    """The least reader of two parts that are joined by the sign, or in a row."""
    if sign == "|":
        return either(one, other)
    if sign == "&":
        return both(one, other)
    if sign == "-":
        return less(one, other)
    return in_row(one, other)


def reader_by(letters, books, steps):
    """The least reader that an expression's steps tell; books tells of each name its least reader."""
    parts = []
    for sort, told in steps:
        if sort == JOINT:
            other = parts.pop()
            one = parts.pop()
            parts.append(joined_reader(told, one, other))
        elif sort == MARK:
            parts.append(marked_reader(told, parts.pop()))
        else:
            parts.append(thing_reader(letters, books, sort, told))
    return parts[0]


def reader_of(letters, text):
    """The least reader that says yes to just the texts of the expression."""
    check_letters(letters)
    source = source_of(text)
    steps = steps_from(source)
    source.take_end()
    check_steps(letters, {}, steps)
    return reader_by(letters, {}, steps)
