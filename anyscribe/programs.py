"""Programs, read into statements, each a triple: book, a name, steps; kinds, a name, kinds; ask, its key, its parts.

What is read here is well formed; whether its letters, names and kinds are right is not asked for yet.
"""

from anyscribe.expressions import steps_from
from anyscribe.pieces import END, NAME, NUMBER, WORD, source_of

# What stands behind the key of each ask.
ASKS = {
    "has": ("book", "side"),
    "comes": ("book", "kinds", "side"),
    "bears": ("book", "kinds"),
    "apart": ("book", "book", "kinds"),
    "same": ("book", "book"),
    "fewest": ("side", "side", "kinds"),
    "end": ("side", "kinds"),
    "count": ("book", "number"),
}


def side_from(source):
    """The text of the side that comes next in the source."""
    if source.piece_ahead() == "_":
        source.take()
        return ""
    return source.take_sort(WORD)


def kind_from(source):
    """The pair of sides that comes next in the source."""
    left = side_from(source)
    source.take_piece(">")
    return (left, side_from(source))


def kinds_from(source):
    """The tuple of the pairs of sides that come next in the source."""
    kinds = [kind_from(source)]
    while source.piece_ahead() == ",":
        source.take()
        kinds.append(kind_from(source))
    return tuple(kinds)


def part_from(source, sort):
    """The part of an ask that comes next in the source: a text, a number, or the name of something of the sort."""
    if sort == "side":
        return side_from(source)
    if sort == "number":
        return int(source.take_sort(NUMBER))
    return source.take_sort(NAME)


def ask_from(source):
    """The ask that comes next in the source, behind its first key."""
    key = source.piece_ahead()
    if key not in ASKS:
        source.refuse()
    source.take()
    parts = []
    for sort in ASKS[key]:
        parts.append(part_from(source, sort))
    return ("ask", key, tuple(parts))


def statement_from(source):
    """The statement that comes next in the source, without its last sign."""
    key = source.piece_ahead()
    if key not in ("book", "kinds", "ask"):
        source.refuse()
    source.take()
    if key == "ask":
        return ask_from(source)
    name = source.take_sort(NAME)
    source.take_piece("=")
    if key == "book":
        return (key, name, steps_from(source))
    return (key, name, kinds_from(source))


def program_of(text):
    """The pair of a program's letters and the tuple of its statements; any value may be handed in."""
    source = source_of(text)
    source.take_piece("letters")
    letters = source.take_sort(WORD)
    source.take_piece(";")
    statements = []
    while source.sort_ahead() != END:
        statements.append(statement_from(source))
        source.take_piece(";")
    return letters, tuple(statements)
