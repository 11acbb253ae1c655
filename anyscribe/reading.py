"""Programs, read and checked."""

from anyscribe.checks import check_kinds, check_letters, is_kind
from anyscribe.errors import BadKind, Twice
from anyscribe.expressions import check_name, check_steps, check_word
from anyscribe.programs import ASKS, program_of


def check_told_kinds(letters, kinds):
    """Raise NoLetter and BadKind for the first pair of sides that calls for it, BadKinds behind these."""
    for left, right in kinds:
        check_word(letters, left)
        check_word(letters, right)
        if not is_kind(letters, (left, right)):
            raise BadKind()
    check_kinds(letters, kinds)


def check_ask(letters, names, key, parts):
    """Raise Unknown and NoLetter for the first part of an ask that calls for it."""
    for sort, part in zip(ASKS[key], parts):
        if sort == "side":
            check_word(letters, part)
        elif sort != "number":
            check_name(names, part, sort)


def check_telling(letters, names, statement):
    """Raise the errors of a statement that tells a name: one of a book, or of kinds."""
    key, name, told = statement
    if name in names:
        raise Twice(name)
    if key == "book":
        check_steps(letters, names, told)
    else:
        check_told_kinds(letters, told)


def checked(text):
    """The letters and the statements of a program, with no error left in it."""
    letters, statements = program_of(text)
    check_letters(letters)
    names = {}
    for statement in statements:
        key, name, told = statement
        if key == "ask":
            check_ask(letters, names, name, told)
        else:
            check_telling(letters, names, statement)
            # Only from here on is the name told: its own statement does not know it.
            names[name] = key
    return letters, statements


def check(text):
    """Raise the first error of a program, if it has one."""
    checked(text)
