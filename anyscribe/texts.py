"""Deeds on texts, and the copies that come of them."""

from anyscribe.checks import LONGEST_TEXT, check_kinds, check_letters, check_text, is_integer
from anyscribe.errors import BadDeed, TooLong


def text_order(text):
    """The key by which texts are ordered: by length, then as Python orders them."""
    return (len(text), text)


def texts_within(letters, longest):
    """The list of all texts of at most so many letters, ascending."""
    texts = [""]
    last = [""]
    for _ in range(longest):
        last = [text + letter for text in last for letter in letters]
        texts.extend(last)
    return texts


def kind_order(kind):
    """The key by which kinds are ordered: by l, then by r."""
    left, right = kind
    return (text_order(left), text_order(right))


def deeds_on(kinds, text):
    """The tuple of all deeds on a text of any length, in their order."""
    ordered = sorted(kinds, key=kind_order)
    found = []
    for place in range(len(text) + 1):
        for left, right in ordered:
            if text[place:place + len(left)] == left:
                found.append((place, left, right))
    return tuple(found)


def text_behind(text, deed):
    """The text behind a deed that can be done on it."""
    place, left, right = deed
    return text[:place] + right + text[place + len(left):]


def is_deed_on(kinds, text, value):
    """Whether the value is one of the deeds on a text of any length."""
    if not isinstance(value, tuple) or len(value) != 3:
        return False
    place, left, right = value
    # Python holds True for 1, so that the place is asked for what it is.
    if not is_integer(place) or not 0 <= place <= len(text) or (left, right) not in kinds:
        return False
    return text[place:place + len(left)] == left


def check_deeds_of(letters, kinds, text):
    """Raise the errors of the parameters that all functions of deeds begin with."""
    check_letters(letters)
    check_kinds(letters, kinds)
    check_text(letters, text)


def deeds(letters, kinds, text):
    """The tuple of all deeds on the text, ascending by place, then by l and r."""
    check_deeds_of(letters, kinds, text)
    return deeds_on(kinds, text)


def done(letters, kinds, text, deed):
    """The text behind the deed."""
    check_deeds_of(letters, kinds, text)
    if not is_deed_on(kinds, text, deed):
        raise BadDeed()
    behind = text_behind(text, deed)
    if len(behind) > LONGEST_TEXT:
        raise TooLong(LONGEST_TEXT)
    return behind


def copies(letters, kinds, text):
    """The ascending tuple of all texts behind one deed, each once."""
    check_deeds_of(letters, kinds, text)
    behind = {text_behind(text, deed): True for deed in deeds_on(kinds, text)}
    if any([len(copy) > LONGEST_TEXT for copy in behind]):
        raise TooLong(LONGEST_TEXT)
    return tuple(sorted(list(behind), key=text_order))
