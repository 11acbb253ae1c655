"""Expressions, read into steps: each thing, mark and joint of one as a pair, behind the steps of its parts.

So the steps of a (b c)* are a, b, c, the joint of b and c, the mark *, the joint of a with that.
"""

from anyscribe.errors import NoLetter, Unknown
from anyscribe.pieces import NAME, WORD

MOST_PIECES = 60
MOST_BRACKETS = 30
MARKS = ("*", "+", "?")
OPENING = (".", "_", "(")

# A step is a pair of its sort (that of a thing's piece, or one of these two) and its text.
MARK = "mark"
JOINT = "joint"
# The text of a joint in a row, where no sign stands.
ROW = " "


class Expression:
    """An expression that is being read from a source, and its steps so far."""

    def __init__(self, source):
        self.source = source
        self.taken = 0
        self.deep = 0
        self.steps = []

    def take(self):
        """The text of the next piece, which is read over, if the expression may have one more."""
        if self.taken == MOST_PIECES:
            self.source.refuse()
        self.taken += 1
        return self.source.take()

    def add_joint(self, sign):
        """Join the last two parts."""
        self.steps.append((JOINT, sign))

    def read_choice(self):
        """Read what | joins."""
        self.read_meeting()
        while self.source.piece_ahead() == "|":
            sign = self.take()
            self.read_meeting()
            self.add_joint(sign)

    def read_meeting(self):
        """Read what & and - join."""
        self.read_row()
        while self.source.piece_ahead() in ("&", "-"):
            sign = self.take()
            self.read_row()
            self.add_joint(sign)

    def read_row(self):
        """Read things one behind another."""
        self.read_thing(False)
        while self.is_thing_ahead():
            self.read_thing(True)

    def is_thing_ahead(self):
        """Whether a thing begins with the next piece."""
        return self.source.sort_ahead() in (WORD, NAME) or self.source.piece_ahead() in OPENING

    def is_mark_ahead(self):
        """Whether the next piece is a mark."""
        return self.source.piece_ahead() in MARKS

    def read_thing(self, behind):
        """Read a thing with its marks; behind tells whether another thing stands ahead of it in its row."""
        if not self.is_thing_ahead():
            self.source.refuse()
        sort = self.source.sort_ahead()
        joins = behind
        if sort == WORD:
            joins = self.read_word(behind)
        elif self.source.piece_ahead() == "(":
            self.read_brackets()
        else:
            self.steps.append((sort, self.take()))
        while self.is_mark_ahead():
            self.steps.append((MARK, self.take()))
        if joins:
            self.add_joint(ROW)

    def read_word(self, behind):
        """Read a word, and tell whether the last step is to be joined to what stands ahead of it in its row."""
        word = self.take()
        if len(word) == 1 or not self.is_mark_ahead():
            self.steps.append((WORD, word))
            return behind
        # The marks take the last letter alone: the others are a word of their own ahead of it.
        self.steps.append((WORD, word[:-1]))
        if behind:
            self.add_joint(ROW)
        self.steps.append((WORD, word[-1]))
        return True

    def read_brackets(self):
        """Read an expression in brackets."""
        if self.deep == MOST_BRACKETS:
            self.source.refuse()
        self.take()
        self.deep += 1
        self.read_choice()
        self.deep -= 1
        if self.source.piece_ahead() != ")":
            self.source.refuse()
        self.take()


def steps_from(source):
    """The tuple of the steps of the expression that comes next in the source."""
    expression = Expression(source)
    expression.read_choice()
    return tuple(expression.steps)


def check_word(letters, word):
    """Raise NoLetter for the first letter of the word that is none of the letters."""
    for letter in word:
        if letter not in letters:
            raise NoLetter(letter)


def check_name(names, name, sort):
    """Raise Unknown for a name that is not told for something of the sort; names tells of each name its sort."""
    if names.get(name) != sort:
        raise Unknown(name)


def check_steps(letters, names, steps):
    """Raise NoLetter and Unknown for an expression's first word or name that calls for it."""
    for sort, told in steps:
        if sort == WORD:
            check_word(letters, told)
        elif sort == NAME:
            check_name(names, told, "book")
