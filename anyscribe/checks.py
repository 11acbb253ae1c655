"""What values are letters, texts, kinds and numbers, and the errors for those that are not."""

from anyscribe.errors import BadKinds, BadLetters, BadMender, BadNumber, BadText, BadTexts

MOST_LETTERS = 4
LONGEST_TEXT = 40
LONGEST_LEFT = 3
LONGEST_RIGHT = 1
MOST_KINDS = 12
MOST_TEXTS = 20
LONGEST_OF_TEXTS = 8


def is_integer(value):
    """Whether the value is an integer; True and False are none."""
    return isinstance(value, int) and not isinstance(value, bool)


def is_letters(value):
    """Whether the value is a text of 1 to 4 unlike small letters, ascending."""
    if not isinstance(value, str) or not 1 <= len(value) <= MOST_LETTERS:
        return False
    small = [letter for letter in value if "a" <= letter <= "z"]
    rising = [at for at in range(1, len(value)) if value[at - 1] < value[at]]
    return len(small) == len(value) and len(rising) == len(value) - 1


def is_text(letters, value):
    """Whether the value is a text of the letters, of any length."""
    return isinstance(value, str) and all([letter in letters for letter in value])


def is_text_within(letters, value, longest):
    """Whether the value is a text of the letters, of at most so many."""
    # The length is asked first, so that an endlessly long value costs nothing.
    return isinstance(value, str) and len(value) <= longest and is_text(letters, value)


def is_kind(letters, value):
    """Whether the value is a pair of unlike texts of the letters, as short as a kind's."""
    if not isinstance(value, tuple) or len(value) != 2:
        return False
    left, right = value
    if not is_text_within(letters, left, LONGEST_LEFT) or not is_text_within(letters, right, LONGEST_RIGHT):
        return False
    return left != right


def is_lot(letters, value):
    """Whether the value is a tuple of at most 12 unlike kinds."""
    if not isinstance(value, tuple) or len(value) > MOST_KINDS:
        return False
    # Only kinds are compared: what else stands there may not be a member of a set.
    return all([is_kind(letters, kind) for kind in value]) and len(set(value)) == len(value)


def check_letters(letters):
    """Raise BadLetters for what is no letters."""
    if not is_letters(letters):
        raise BadLetters()


def check_text(letters, text):
    """Raise BadText for what is no text of at most 40 of the letters."""
    if not is_text_within(letters, text, LONGEST_TEXT):
        raise BadText()


def check_kinds(letters, kinds):
    """Raise BadKinds for what is no lot of kinds."""
    if not is_lot(letters, kinds):
        raise BadKinds()


def check_mender(letters, mender):
    """Raise BadKinds for what is no lot of kinds, BadMender for one with an l that is not longer than its r."""
    check_kinds(letters, mender)
    if any([len(left) <= len(right) for left, right in mender]):
        raise BadMender()


def check_texts(letters, texts):
    """Raise BadTexts for what is no tuple of at most 20 texts of at most 8 of the letters."""
    if not isinstance(texts, tuple) or len(texts) > MOST_TEXTS:
        raise BadTexts()
    if not all([is_text_within(letters, text, LONGEST_OF_TEXTS) for text in texts]):
        raise BadTexts()


def check_number(number, most):
    """Raise BadNumber for what is no integer from 0 to the most."""
    if not is_integer(number) or not 0 <= number <= most:
        raise BadNumber()
