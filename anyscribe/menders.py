"""Menders: kinds of deeds that shorten a text, done again and again until there is none to do."""

from anyscribe.checks import check_kinds, check_letters, check_mender, check_number, check_text, check_texts
from anyscribe.texts import deeds_on, text_behind, text_order, texts_within

MOST_DEEDS = 3


def next_deed(mender, text):
    """The deed of a mender that is done next on the text, None if there is none."""
    for place in range(len(text)):
        kinds = [kind for kind in mender if text[place:place + len(kind[0])] == kind[0]]
        if len(kinds) > 0:
            # Of several kinds with an l of this length max takes the first one.
            left, right = max(kinds, key=lambda kind: len(kind[0]))
            return (place, left, right)
    return None


def mending_of(mender, text):
    """The deeds of a mender on the text, one behind another, and the text behind them."""
    row = []
    now = text
    deed = next_deed(mender, now)
    while deed is not None:
        row.append(deed)
        now = text_behind(now, deed)
        deed = next_deed(mender, now)
    return tuple(row), now


def least_overlap(letters, mender):
    """The least text for which two orders of a mender's deeds end in unlike texts, None if there is none."""
    longest = max([len(left) for left, _ in mender], default=1)
    ends = {}
    # In the least such text two deeds overlap that nothing behind them brings together, and all of it is theirs:
    # what stood beside them could be left out. So it is no longer than two l's that have one letter in common.
    for text in texts_within(letters, 2 * longest - 1):
        behind = [ends[text_behind(text, deed)] for deed in deeds_on(mender, text)]
        if any([end != behind[0] for end in behind]):
            return text
        ends[text] = behind[0] if len(behind) > 0 else text
    return None


def end_of(mender, text, ends):
    """The text to which a mender leads the text; ends keeps what was told of texts."""
    passed = []
    now = text
    while now not in ends:
        passed.append(now)
        deed = next_deed(mender, now)
        if deed is None:
            ends[now] = now
        else:
            now = text_behind(now, deed)
    for each in passed:
        ends[each] = ends[now]
    return ends[now]


def first_unmended(kinds, many, mender, text, ends):
    """Of the copies by fewest deeds that the mender does not lead to the text the least; None if there is none."""
    seen = {text: True}
    level = [text]
    for count in range(many + 1):
        if count > 0:
            level = copies_of_level(kinds, level, seen)
        wrong = [copy for copy in level if end_of(mender, copy, ends) != text]
        if len(wrong) > 0:
            return min(wrong, key=text_order)
    return None


def copies_of_level(kinds, level, seen):
    """The texts behind one deed on those of the level, but for those seen ahead; from then on they are seen, too."""
    found = []
    for text in level:
        for deed in deeds_on(kinds, text):
            copy = text_behind(text, deed)
            if copy not in seen:
                seen[copy] = True
                found.append(copy)
    return found


def check_letters_and_mender(letters, mender):
    """Raise the errors of the parameters that most functions of menders begin with."""
    check_letters(letters)
    check_mender(letters, mender)


def mended(letters, mender, text):
    """The text to which the mender leads the text."""
    check_letters_and_mender(letters, mender)
    check_text(letters, text)
    _, end = mending_of(mender, text)
    return end


def mending(letters, mender, text):
    """The tuple of the deeds by which the mender leads the text to its end."""
    check_letters_and_mender(letters, mender)
    check_text(letters, text)
    row, _ = mending_of(mender, text)
    return row


def is_one_way(letters, mender):
    """Whether for every text all orders of the mender's deeds end in one text."""
    check_letters_and_mender(letters, mender)
    return least_overlap(letters, mender) is None


def overlap(letters, mender):
    """The least text for which two orders of the mender's deeds end in unlike texts, None if there is none."""
    check_letters_and_mender(letters, mender)
    return least_overlap(letters, mender)


def failing(letters, kinds, many, mender, texts):
    """None, or the first text with a copy by at most so many deeds that is not led to it, and that copy."""
    check_letters(letters)
    check_kinds(letters, kinds)
    check_number(many, MOST_DEEDS)
    check_mender(letters, mender)
    check_texts(letters, texts)
    ends = {}
    for text in texts:
        copy = first_unmended(kinds, many, mender, text, ends)
        if copy is not None:
            return (text, copy)
    return None


def brings_back(letters, kinds, many, mender, texts):
    """Whether the mender leads every copy of each of the texts by at most so many deeds to the text itself."""
    return failing(letters, kinds, many, mender, texts) is None
