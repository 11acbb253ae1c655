"""Texts that are read piece by piece: words, keys, names, numbers and signs, each with its place."""

from anyscribe.errors import InvalidText, NotText

MOST_SIGNS = 2000
LONGEST_WORD = 40
LONGEST_NAME = 8
GREATEST_NUMBER = 40
KEYS = ("letters", "book", "kinds", "ask", "has", "comes", "bears", "apart", "same", "fewest", "end", "count")

WORD = "word"
KEY = "key"
NAME = "name"
NUMBER = "number"
SIGN = "sign"
BLANK = "blank"
WRONG = "wrong"
END = "end"


def sort_of_sign(sign):
    """The sort of the pieces in which the sign stands."""
    if "a" <= sign <= "z":
        return WORD
    if "A" <= sign <= "Z":
        return NAME
    if "0" <= sign <= "9":
        return NUMBER
    if sign in (" ", "\n"):
        return BLANK
    return SIGN


def runs_on(sort):
    """Whether signs of the sort run together to one piece."""
    return sort in (WORD, NAME, NUMBER)


def end_of_piece(text, start):
    """Where the piece that begins at the start ends."""
    sort = sort_of_sign(text[start])
    end = start + 1
    while runs_on(sort) and end < len(text) and sort_of_sign(text[end]) == sort:
        end += 1
    return end


def is_number(figures):
    """Whether the figures are a number from 0 to 40 without needless zeros."""
    # The length is asked first, so that only short rows of figures are taken for an integer.
    return len(figures) <= 2 and str(int(figures)) == figures and int(figures) <= GREATEST_NUMBER


def sort_of_piece(sort, piece):
    """The sort of a piece whose signs are of the sort: WRONG for one that can stand nowhere."""
    if sort == WORD and piece in KEYS:
        return KEY
    if sort == WORD and len(piece) > LONGEST_WORD:
        return WRONG
    if sort == NAME and len(piece) > LONGEST_NAME:
        return WRONG
    if sort == NUMBER and not is_number(piece):
        return WRONG
    return sort


def is_joint(text, place):
    """Whether a blank is missing at the place: words, names or numbers run together there."""
    return place > 0 and runs_on(sort_of_sign(text[place - 1])) and runs_on(sort_of_sign(text[place]))


def pieces_of(text):
    """The list of the pieces of a text, each a triple of its sort, its text and its place; behind them the end."""
    pieces = []
    start = 0
    while start < len(text):
        end = end_of_piece(text, start)
        piece = text[start:end]
        sort = sort_of_piece(sort_of_sign(text[start]), piece)
        if is_joint(text, start):
            # Its text is left out, so that a key is not taken for one where a blank is missing.
            pieces.append((WRONG, "", start))
        elif sort != BLANK:
            pieces.append((sort, piece, start))
        start = end
    pieces.append((END, "", len(text)))
    return pieces


class Source:
    """A text that is read piece by piece, from its beginning to its end."""

    def __init__(self, text):
        self.pieces = pieces_of(text)
        self.at = 0

    def sort_ahead(self):
        """The sort of the piece that comes next."""
        return self.pieces[self.at][0]

    def piece_ahead(self):
        """The text of the piece that comes next, empty at the end."""
        return self.pieces[self.at][1]

    def refuse(self):
        """Raise InvalidText for the piece that comes next."""
        raise InvalidText(self.pieces[self.at][2])

    def take(self):
        """The text of the next piece, which is read over."""
        piece = self.piece_ahead()
        self.at += 1
        return piece

    def take_sort(self, sort):
        """The text of the next piece, which must be of the sort."""
        if self.sort_ahead() != sort:
            self.refuse()
        return self.take()

    def take_piece(self, piece):
        """Read over the next piece, which must be this key or sign."""
        if self.piece_ahead() != piece:
            self.refuse()
        self.take()

    def take_end(self):
        """Raise InvalidText unless all pieces are read."""
        if self.sort_ahead() != END:
            self.refuse()


def source_of(text):
    """The source of a text of at most 2000 signs; any value may be handed in."""
    if not isinstance(text, str):
        raise NotText()
    if len(text) > MOST_SIGNS:
        raise InvalidText(MOST_SIGNS)
    return Source(text)
