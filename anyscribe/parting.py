"""Books told apart, whatever scribes did to their texts."""

from itertools import combinations

from anyscribe.checks import check_kinds, check_letters, check_number, check_text
from anyscribe.copying import comes_of
from anyscribe.errors import NotApart, TooMany
from anyscribe.loose import loose_line, spread, tight
from anyscribe.readers import both, check_readers, least_text, paired
from anyscribe.texts import texts_within

MOST_PARTED_KINDS = 8
LONGEST_IN_LOT = 5
MOST_IN_LOT = 32


def check_pair(one, other, kinds):
    """Raise the errors of the parameters that functions of two readers begin with."""
    check_readers(one, other)
    check_kinds(one[0], kinds)


def least_meeting(one, other, kinds):
    """The least text that can come of both readers, None if there is none."""
    return least_text(both(comes_of(one, kinds), comes_of(other, kinds)))


def come_of_text(letters, kinds, text):
    """The least reader of what comes of the text."""
    return tight(spread(loose_line(letters, text), kinds))


def have_common_text(one, other):
    """Whether two readers of the same letters say yes to one text."""
    _, yes = paired(one, other, lambda first, second: first and second)
    return True in yes


def lots_apart(letters, kinds, texts):
    """For each of the texts the lot of the places of those behind it that cannot meet it."""
    readers = [come_of_text(letters, kinds, text) for text in texts]
    apart = [0 for _ in texts]
    for at, one in enumerate(readers):
        for place in range(at):
            if not have_common_text(one, readers[place]):
                apart[place] |= 1 << at
    return apart


def first_place(lot):
    """The first place of a lot."""
    return (lot & -lot).bit_length() - 1


def most_apart(apart, lot, known):
    """How many places of the lot can be apart from one another at most; known keeps what was told of lots."""
    if lot == 0:
        return 0
    if lot not in known:
        # Lots of the last places come again and again, as there are not so many of these.
        place = first_place(lot)
        rest = lot - (1 << place)
        known[lot] = max(1 + most_apart(apart, rest & apart[place], known), most_apart(apart, rest, known))
    return known[lot]


def places_apart(apart):
    """The least list of as many places as can be that are apart from one another."""
    known = {}
    chosen = []
    lot = (1 << len(apart)) - 1
    while lot > 0:
        place = first_place(lot)
        rest = lot - (1 << place)
        if 1 + most_apart(apart, rest & apart[place], known) == most_apart(apart, lot, known):
            chosen.append(place)
            rest = rest & apart[place]
        lot = rest
    return chosen


def are_apart(one, other, kinds):
    """Whether no text can come of both readers."""
    check_pair(one, other, kinds)
    return least_meeting(one, other, kinds) is None


def meeting(one, other, kinds):
    """The least text that can come of both readers, None if they are apart."""
    check_pair(one, other, kinds)
    return least_meeting(one, other, kinds)


def teller(one, other, kinds):
    """The least reader that says yes to what comes of the first reader and to nothing that comes of the other."""
    check_pair(one, other, kinds)
    if least_meeting(one, other, kinds) is not None:
        raise NotApart()
    return comes_of(one, kinds)


def most_kinds(one, other, kinds):
    """The first one of the sublots with most kinds under which the two readers are apart, None if there is none."""
    check_pair(one, other, kinds)
    if len(kinds) > MOST_PARTED_KINDS:
        raise TooMany(MOST_PARTED_KINDS)
    in_order = list(kinds)
    for many in range(len(kinds), -1, -1):
        for lot in combinations(in_order, many):
            if least_meeting(one, other, lot) is None:
                return lot
    return None


def can_meet(letters, kinds, text, other):
    """Whether some text can come of both texts."""
    check_letters(letters)
    check_kinds(letters, kinds)
    check_text(letters, text)
    check_text(letters, other)
    return have_common_text(come_of_text(letters, kinds, text), come_of_text(letters, kinds, other))


def greatest_lot(letters, kinds, n):
    """The least tuple of as many texts of n letters as can be, no two of which can meet."""
    check_letters(letters)
    check_kinds(letters, kinds)
    check_number(n, LONGEST_IN_LOT)
    texts = [text for text in texts_within(letters, n) if len(text) == n]
    if len(texts) > MOST_IN_LOT:
        raise TooMany(MOST_IN_LOT)
    return tuple([texts[place] for place in places_apart(lots_apart(letters, kinds, texts))])
