"""Readers: machines with finitely many stands that say yes or no to each text."""

from anyscribe.checks import check_number, check_text, is_integer, is_letters
from anyscribe.errors import BadReader, TooMany, Unlike
from anyscribe.machines import MOST_STANDS, explored, first_text, shrunk

LONGEST_COUNTED = 40
MOST_LISTED = 500


def is_row(value, width, many):
    """Whether the value is a tuple of so wide, of stands below so many."""
    if not isinstance(value, tuple) or len(value) != width:
        return False
    return all([is_integer(stand) and 0 <= stand < many for stand in value])


def is_reader(value):
    """Whether the value is a reader."""
    if not isinstance(value, tuple) or len(value) != 3:
        return False
    letters, rows, yes = value
    if not is_letters(letters) or not isinstance(rows, tuple) or not isinstance(yes, tuple):
        return False
    if not 1 <= len(rows) <= MOST_STANDS or len(yes) != len(rows):
        return False
    if not all([is_row(row, len(letters), len(rows)) for row in rows]):
        return False
    return all([isinstance(said, bool) for said in yes])


def check_reader(reader):
    """Raise BadReader for what is no reader."""
    if not is_reader(reader):
        raise BadReader()


def check_readers(one, other):
    """Raise BadReader for what is no reader, Unlike for two of unlike letters."""
    check_reader(one)
    check_reader(other)
    if one[0] != other[0]:
        raise Unlike()


def stand_from(reader, stand, text):
    """The stand to which a text of the reader's letters, of any length, leads from the stand."""
    letters, rows, _ = reader
    now = stand
    for letter in text:
        now = rows[now][letters.index(letter)]
    return now


def stand_behind(reader, text):
    """The stand to which a text of the reader's letters, of any length, leads."""
    return stand_from(reader, 0, text)


def verdict(reader, text):
    """What the reader says of the text."""
    check_reader(reader)
    check_text(reader[0], text)
    return reader[2][stand_behind(reader, text)]


def reached(reader):
    """The stands that are come to, in the order in which they are, and the rows of their numbers there."""
    rows = reader[1]
    return explored(0, lambda stand: rows[stand])


def stands_come_to(reader):
    """The ascending tuple of the stands that some text leads to."""
    check_reader(reader)
    stands, _ = reached(reader)
    return tuple(sorted(stands))


def least_of(reader):
    """The least reader that says the same as the reader, which is one."""
    letters, _, yes = reader
    stands, rows = reached(reader)
    return shrunk(letters, rows, [yes[stand] for stand in stands])


def least(reader):
    """The one reader with fewest stands that says the same of every text."""
    check_reader(reader)
    return least_of(reader)


def paired(one, other, tell):
    """The machine that reads with both readers at once: its rows and what tell says of their two verdicts."""
    firsts, seconds = one[1], other[1]
    pairs, rows = explored((0, 0), lambda pair: list(zip(firsts[pair[0]], seconds[pair[1]])))
    return rows, [tell(one[2][first], other[2][second]) for first, second in pairs]


def are_alike(one, other):
    """Whether the two readers say the same of every text."""
    check_readers(one, other)
    return least_of(one) == least_of(other)


def parting(one, other):
    """The least text of which the two readers say unlike things, None for alike ones."""
    check_readers(one, other)
    rows, yes = paired(one, other, lambda first, second: first != second)
    return first_text(one[0], rows, yes)


def both(one, other):
    """The least reader that says yes where both do."""
    check_readers(one, other)
    rows, yes = paired(one, other, lambda first, second: first and second)
    return shrunk(one[0], rows, yes)


def either(one, other):
    """The least reader that says yes where one does."""
    check_readers(one, other)
    rows, yes = paired(one, other, lambda first, second: first or second)
    return shrunk(one[0], rows, yes)


def less(one, other):
    """The least reader that says yes where the first one does and the other does not."""
    check_readers(one, other)
    rows, yes = paired(one, other, lambda first, second: first and not second)
    return shrunk(one[0], rows, yes)


def least_text(reader):
    """The least text to which the reader says yes, None for none."""
    check_reader(reader)
    stands, rows = reached(reader)
    return first_text(reader[0], rows, [reader[2][stand] for stand in stands])


def ways_of(reader, n):
    """For each length from 0 to n the list that tells of each stand how many texts lead from it to yes."""
    _, rows, yes = reader
    ways = [[1 if said else 0 for said in yes]]
    for _ in range(n):
        last = ways[-1]
        ways.append([sum([last[stand] for stand in row]) for row in rows])
    return ways


def count(reader, n):
    """To how many texts of n letters the reader says yes."""
    check_reader(reader)
    check_number(n, LONGEST_COUNTED)
    return ways_of(reader, n)[n][0]


def listed(reader, n):
    """The ascending tuple of the texts of n letters to which the reader says yes."""
    check_reader(reader)
    check_number(n, LONGEST_COUNTED)
    ways = ways_of(reader, n)
    if ways[n][0] > MOST_LISTED:
        raise TooMany(MOST_LISTED)
    letters, rows, _ = reader
    found = [("", 0)] if ways[n][0] > 0 else []
    for left in reversed(range(n)):
        # Beginnings that no longer lead to yes are dropped, so that there are never more than the texts listed.
        found = [(text + letter, to) for text, stand in found
                 for letter, to in zip(letters, rows[stand]) if ways[left][to] > 0]
    return tuple([text for text, _ in found])


def is_endless(reader):
    """Whether the reader says yes to endlessly many texts."""
    check_reader(reader)
    _, rows, yes = least_of(reader)
    # In a least reader one stand at most leads to no yes: the one that says no and leads to itself alone.
    hopeful = [yes[stand] or any([to != stand for to in row]) for stand, row in enumerate(rows)]
    ahead = [0]
    # As many steps as there are stands come twice to one of them.
    for _ in rows:
        ahead = sorted({to for stand in ahead for to in rows[stand] if hopeful[to]})
    return len(ahead) > 0
