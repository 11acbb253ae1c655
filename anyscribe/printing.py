"""Programs in one form."""

from anyscribe.expressions import JOINT, MARK, ROW
from anyscribe.pieces import WORD
from anyscribe.programs import ASKS
from anyscribe.reading import checked

# How closely an expression's part holds together: what is joined by | the least, what a mark can stand behind the most.
CHOICE = 0
MEETING = 1
THINGS = 2
LONG_WORD = 3
SINGLE = 4


def within(part, close):
    """The text of a part, in brackets if it does not hold together so closely."""
    own, text = part
    if own < close:
        return f"({text})"
    return text


def joined_part(sign, one, other):
    """The part of two that are joined; as all join from the left, only the first one may be joined likewise."""
    if sign == ROW:
        return (THINGS, f"{within(one, THINGS)} {within(other, LONG_WORD)}")
    close = CHOICE if sign == "|" else MEETING
    return (close, f"{within(one, close)} {sign} {within(other, close + 1)}")


def thing_part(sort, told):
    """The part of one thing alone."""
    if sort == WORD and len(told) > 1:
        return (LONG_WORD, told)
    return (SINGLE, told)


def printed_steps(steps):
    """The text of an expression."""
    parts = []
    for sort, told in steps:
        if sort == JOINT:
            other = parts.pop()
            one = parts.pop()
            parts.append(joined_part(told, one, other))
        elif sort == MARK:
            parts.append((SINGLE, within(parts.pop(), SINGLE) + told))
        else:
            parts.append(thing_part(sort, told))
    return parts[0][1]


def printed_side(side):
    """The text of a side."""
    return side if side != "" else "_"


def printed_kinds(kinds):
    """The text of kinds."""
    return ", ".join([f"{printed_side(left)} > {printed_side(right)}" for left, right in kinds])


def printed_ask(key, parts):
    """The text of an ask."""
    words = ["ask", key]
    for sort, part in zip(ASKS[key], parts):
        words.append(printed_side(part) if sort == "side" else str(part))
    return " ".join(words)


def printed_statement(statement):
    """The text of a statement, without its last sign."""
    key, name, told = statement
    if key == "ask":
        return printed_ask(name, told)
    text = printed_steps(told) if key == "book" else printed_kinds(told)
    return f"{key} {name} = {text}"


def printed(text):
    """The program in one form."""
    letters, statements = checked(text)
    lines = [f"letters {letters}"]
    for statement in statements:
        lines.append(printed_statement(statement))
    return "\n".join([f"{line};" for line in lines])
