"""Readers whose verdict stands, whatever scribes do, and papers that show it."""

from anyscribe.checks import check_kinds, is_integer, is_kind, is_text
from anyscribe.machines import explored, text_to
from anyscribe.readers import check_reader, least_of, stand_behind, stand_from
from anyscribe.texts import deeds_on, is_deed_on, text_behind, text_order, texts_within

LONGEST_BORNE = 2
BEARS = "bears"
TURNED = "turned"


def is_borne(small, kind):
    """Whether a least reader bears the kind."""
    left, right = kind
    # Alike stands of a least reader are one.
    return all([stand_from(small, stand, left) == stand_from(small, stand, right) for stand in range(len(small[1]))])


def parting_classes(small):
    """For each length, lists of numbers of a reader's stands: unlike if a text of at most this length parts them.

    The last list is of the length at which all stands of a least reader are parted.
    """
    _, rows, yes = small
    classes = [1 if said else 0 for said in yes]
    found = [classes]
    while len(set(classes)) < len(rows):
        numbers = {}
        # The old number comes first, so that what was parted stays so.
        keys = [(classes[stand], tuple([classes[to] for to in row])) for stand, row in enumerate(rows)]
        for key in keys:
            numbers.setdefault(key, len(numbers))
        classes = [numbers[key] for key in keys]
        found.append(classes)
    return found


def parting_text(small, classes, one, other):
    """The least text that parts two unlike stands of a least reader; classes are its parting_classes."""
    letters, rows, _ = small
    left = [each[one] != each[other] for each in classes].index(True)
    text = ""
    while left > 0:
        left -= 1
        at = [classes[left][to] != classes[left][too] for to, too in zip(rows[one], rows[other])].index(True)
        text += letters[at]
        one, other = rows[one][at], rows[other][at]
    return text


def turning_texts(small, kinds):
    """For each stand of a least reader and each kind whose sides part it, the least text turned there."""
    letters, rows, _ = small
    classes = parting_classes(small)
    texts = []
    for stand in range(len(rows)):
        ahead = text_to(letters, rows, stand)
        for left, right in kinds:
            one, other = stand_from(small, stand, left), stand_from(small, stand, right)
            if one != other:
                texts.append(ahead + left + parting_text(small, classes, one, other))
    return texts


def turned_by(reader, kinds):
    """The pair of the least text whose verdict a deed turns and of the first such deed on it, None if there is none."""
    texts = turning_texts(least_of(reader), kinds)
    if len(texts) == 0:
        return None
    text = min(texts, key=text_order)
    for deed in deeds_on(kinds, text):
        if is_turned(reader, text, deed):
            return (text, deed)
    return None


def is_turned(reader, text, deed):
    """Whether the deed turns what the reader says of the text."""
    yes = reader[2]
    return yes[stand_behind(reader, text)] != yes[stand_behind(reader, text_behind(text, deed))]


def numbers_in_least(reader):
    """For each stand the number of its like in the least reader, None for those not come to."""
    rows, least_rows = reader[1], least_of(reader)[1]
    pairs, _ = explored((0, 0), lambda pair: list(zip(rows[pair[0]], least_rows[pair[1]])))
    likes = dict(pairs)
    return tuple([likes.get(stand) for stand in range(len(rows))])


def are_classes(reader, classes):
    """Whether the value is a tuple that tells a number from 0 on, or None, of each stand, a number of the stand 0."""
    if not isinstance(classes, tuple) or len(classes) != len(reader[1]):
        return False
    if not all([number is None or (is_integer(number) and number >= 0) for number in classes]):
        return False
    return classes[0] is not None


def are_kept_apart(reader, classes):
    """Whether stands with a number lead to such ones, those with one number alike, and say the same."""
    shown = {}
    for number, row, said in zip(classes, reader[1], reader[2]):
        if number is not None:
            behind = (said, tuple([classes[to] for to in row]))
            if None in behind[1] or shown.setdefault(number, behind) != behind:
                return False
    return True


def are_sides_alike(reader, kinds, classes):
    """Whether from each stand with a number both sides of each kind lead to stands of one number."""
    for stand, number in enumerate(classes):
        if number is not None:
            for left, right in kinds:
                if classes[stand_from(reader, stand, left)] != classes[stand_from(reader, stand, right)]:
                    return False
    return True


def shows_bearing(reader, kinds, classes):
    """Whether the classes show that the reader bears the kinds."""
    if not are_classes(reader, classes) or not are_kept_apart(reader, classes):
        return False
    return are_sides_alike(reader, kinds, classes)


def shows_turning(reader, kinds, text, deed):
    """Whether the deed is one on the text that turns its verdict."""
    return is_text(reader[0], text) and is_deed_on(kinds, text, deed) and is_turned(reader, text, deed)


def check_reader_and_kinds(reader, kinds):
    """Raise the errors of the parameters that most functions of readers and kinds begin with."""
    check_reader(reader)
    check_kinds(reader[0], kinds)


def bears(reader, kinds):
    """Whether no copy has another verdict than its text."""
    check_reader_and_kinds(reader, kinds)
    small = least_of(reader)
    return all([is_borne(small, kind) for kind in kinds])


def turned(reader, kinds):
    """None, or the pair of the least text whose verdict one deed turns and of the first such deed."""
    check_reader_and_kinds(reader, kinds)
    return turned_by(reader, kinds)


def borne(reader):
    """The tuple of all kinds with an l of at most 2 letters that the reader bears, by l, then by r."""
    check_reader(reader)
    small = least_of(reader)
    letters = reader[0]
    sides = texts_within(letters, LONGEST_BORNE)
    kinds = [(left, right) for left in sides for right in sides if is_kind(letters, (left, right))]
    return tuple([kind for kind in kinds if is_borne(small, kind)])


def paper(reader, kinds):
    """What shows that the reader bears the kinds, or that it does not."""
    check_reader_and_kinds(reader, kinds)
    found = turned_by(reader, kinds)
    if found is None:
        return (BEARS, numbers_in_least(reader))
    return (TURNED,) + found


def judged(reader, kinds, paper):
    """Whether the paper shows what it tells."""
    check_reader_and_kinds(reader, kinds)
    if not isinstance(paper, tuple):
        return False
    if len(paper) == 2 and paper[0] == BEARS:
        return shows_bearing(reader, kinds, paper[1])
    if len(paper) == 3 and paper[0] == TURNED:
        return shows_turning(reader, kinds, paper[1], paper[2])
    return False
