"""Ways of deeds that lead from one text to another."""

from anyscribe.checks import check_kinds, check_letters, check_text
from anyscribe.errors import NoWay, TooLong
from anyscribe.loose import loose_line, loose_reader
from anyscribe.readers import check_reader, least_of
from anyscribe.texts import is_deed_on, text_behind
from anyscribe.trails import trail_of, ways_counted

LONGEST_LED = 8


def check_led(texts):
    """Raise TooLong if one of the texts is too long to be led to another."""
    if any([len(text) > LONGEST_LED for text in texts]):
        raise TooLong(LONGEST_LED)


def check_texts_of(letters, kinds, text, other):
    """Raise the errors of the parameters that are common to all functions of two texts."""
    check_letters(letters)
    check_kinds(letters, kinds)
    check_text(letters, text)
    check_text(letters, other)


def ways_between(letters, kinds, text, other):
    """The counts of the deeds that lead the one text to the other, None if none do."""
    check_texts_of(letters, kinds, text, other)
    check_led((text, other))
    return ways_counted(loose_line(letters, text), kinds, other)


def fewest(letters, kinds, text, other):
    """The least number of deeds that lead the one text to the other, None if none do."""
    counts = ways_between(letters, kinds, text, other)
    return None if counts is None else counts.many - 1


def way(letters, kinds, text, other):
    """A tuple of as few deeds as can be that lead the one text to the other."""
    counts = ways_between(letters, kinds, text, other)
    if counts is None:
        raise NoWay()
    _, row = trail_of(counts)
    return row


def origin(reader, kinds, text):
    """A pair of a text that the reader says yes to and as few deeds as can be that lead one to the text."""
    check_reader(reader)
    check_kinds(reader[0], kinds)
    check_text(reader[0], text)
    check_led((text,))
    counts = ways_counted(loose_reader(least_of(reader)), kinds, text)
    if counts is None:
        raise NoWay()
    return trail_of(counts)


def leads(letters, kinds, text, row, other):
    """Whether the row is a tuple of deeds, each one on the text then, that lead the text to the other one."""
    check_texts_of(letters, kinds, text, other)
    if not isinstance(row, tuple):
        return False
    now = text
    for deed in row:
        if not is_deed_on(kinds, now, deed):
            return False
        now = text_behind(now, deed)
    return now == other
