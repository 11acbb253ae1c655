"""The errors of the package, for each kind of failure one."""


class ScribeError(ValueError):
    """The base class of all errors of the package."""


class BadLetters(ScribeError):
    """No letters: these are a text of 1 to 4 unlike small letters, ascending."""


class BadText(ScribeError):
    """No text of the letters, or one of more than 40 of them."""


class BadKinds(ScribeError):
    """No lot of kinds: this is a tuple of at most 12 unlike kinds."""


class BadDeed(ScribeError):
    """None of the deeds on the text."""


class TooLong(ScribeError):
    """A text has more letters than the most that it may have."""

    def __init__(self, most):
        super().__init__(f"more than {most} letters")
        self.most = most


class BadReader(ScribeError):
    """No reader."""


class Unlike(ScribeError):
    """Two readers have unlike letters."""


class TooMany(ScribeError):
    """There are more things than the most that there may be."""

    def __init__(self, most):
        super().__init__(f"more than {most}")
        self.most = most


class BadNumber(ScribeError):
    """No integer, or one outside of what is asked for."""


class NotText(ScribeError):
    """The value to be read is no text."""


class InvalidText(ScribeError):
    """What stands at the place cannot stand there."""

    def __init__(self, place):
        super().__init__(f"cannot stand at {place}")
        self.place = place


class NoLetter(ScribeError):
    """A letter is none of the letters."""

    def __init__(self, letter):
        super().__init__(f"none of the letters: {letter}")
        self.letter = letter


class Unknown(ScribeError):
    """A name is not told ahead, or is of the other sort."""

    def __init__(self, name):
        super().__init__(f"not told ahead: {name}")
        self.name = name


class Twice(ScribeError):
    """A name is told a second time."""

    def __init__(self, name):
        super().__init__(f"told a second time: {name}")
        self.name = name


class BadKind(ScribeError):
    """The sides of a kind are alike or too long."""


class BadLots(ScribeError):
    """No tuple of at most 4 lots of kinds."""


class NoWay(ScribeError):
    """No deeds lead to the text."""


class NotApart(ScribeError):
    """The two books are not apart."""


class BadMender(ScribeError):
    """No mender: each l of one is longer than its r."""


class BadTexts(ScribeError):
    """No tuple of as many and as long texts as are asked for."""


class BadReaders(ScribeError):
    """No tuple of readers of the letters."""


class NothingDone(ScribeError):
    """There is nothing to take back."""


class InvalidDesk(ScribeError):
    """The line cannot stand in the story of a desk."""

    def __init__(self, at):
        super().__init__(f"cannot stand: line {at}")
        self.at = at
