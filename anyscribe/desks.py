"""Desks, at which one text is copied and mended step by step."""

from anyscribe.checks import LONGEST_TEXT, check_letters, check_mender, check_text, is_kind, is_letters, is_text_within
from anyscribe.errors import BadReaders, InvalidDesk, NothingDone, NotText
from anyscribe.menders import mending_of
from anyscribe.printing import printed_side
from anyscribe.readers import is_reader, stand_behind
from anyscribe.texts import done, is_deed_on, text_behind


class Desk:
    """A text on which deeds are done, which can be taken back step by step."""

    def __init__(self, letters, text):
        check_letters(letters)
        check_text(letters, text)
        self.letters = letters
        self.first = text
        self.now = text
        # For each step that is not taken back the tuple of its deeds and the text ahead of it.
        self.steps = []

    def add_step(self, row, behind):
        """Note a step of these deeds, which led to the text behind them."""
        if len(row) > 0:
            self.steps.append((row, self.now))
            self.now = behind

    def copy(self, kinds, deed):
        """Do the deed, one of these kinds."""
        behind = done(self.letters, kinds, self.now, deed)
        self.add_step((deed,), behind)

    def mend(self, mender):
        """Do all deeds by which the mender leads the text to its end, as one step."""
        check_mender(self.letters, mender)
        row, end = mending_of(mender, self.now)
        self.add_step(row, end)

    def undo(self):
        """Take back the last copy or mend that did something."""
        if len(self.steps) == 0:
            raise NothingDone()
        _, ahead = self.steps.pop()
        self.now = ahead

    def text(self):
        """The text as it is now."""
        return self.now

    def row(self):
        """The tuple of all deeds that are not taken back."""
        return tuple([deed for row, _ in self.steps for deed in row])

    def verdicts(self, readers):
        """The tuple of what the readers say of the text."""
        check_desk_readers(self.letters, readers)
        return tuple([reader[2][stand_behind(reader, self.now)] for reader in readers])

    def story(self):
        """The lines that tell the letters, the first text and the deeds."""
        lines = [f"letters {self.letters}", f"text {printed_side(self.first)}"]
        for place, left, right in self.row():
            lines.append(f"{place} {printed_side(left)} > {printed_side(right)}")
        return "".join([f"{line}\n" for line in lines])


def check_desk_readers(letters, readers):
    """Raise BadReaders for what is no tuple of readers of these letters."""
    if not isinstance(readers, tuple):
        raise BadReaders()
    if not all([is_reader(reader) and reader[0] == letters for reader in readers]):
        raise BadReaders()


def told_text(word):
    """The text that a word of a story tells, None for a word without a sign."""
    if word == "":
        return None
    return "" if word == "_" else word


def word_behind(key, line):
    """What stands behind the key and a blank, nothing for a line that does not begin with them."""
    return line[len(key) + 1:] if line.startswith(f"{key} ") else ""


def begun_desk(lines):
    """The desk that the first two lines of a story tell."""
    if len(lines) == 0:
        raise InvalidDesk(0)
    letters = word_behind("letters", lines[0])
    if not is_letters(letters):
        raise InvalidDesk(0)
    if len(lines) == 1:
        raise InvalidDesk(1)
    text = told_text(word_behind("text", lines[1]))
    if not is_text_within(letters, text, LONGEST_TEXT):
        raise InvalidDesk(1)
    return Desk(letters, text)


def told_deed(letters, text, line):
    """The deed on the text that the line of a story tells, None for a line that tells none."""
    words = line.split(" ")
    if len(words) != 4 or words[2] != ">":
        return None
    # Only what is written just like one of the places is taken for a number.
    places = [str(place) for place in range(len(text) + 1)]
    kind = (told_text(words[1]), told_text(words[3]))
    if words[0] not in places or not is_kind(letters, kind):
        return None
    deed = (places.index(words[0]),) + kind
    if not is_deed_on((kind,), text, deed) or len(text_behind(text, deed)) > LONGEST_TEXT:
        return None
    return deed


def desk_of(text):
    """The desk that a story tells, each deed one step."""
    if not isinstance(text, str):
        raise NotText()
    *lines, rest = text.split("\n")
    desk = begun_desk(lines)
    for at in range(2, len(lines)):
        deed = told_deed(desk.letters, desk.text(), lines[at])
        if deed is None:
            raise InvalidDesk(at)
        desk.copy((deed[1:],), deed)
    if rest != "":
        raise InvalidDesk(len(lines))
    return desk
