"""What can come of the texts of a reader, copied by scribes who may do any deeds of told kinds."""

from anyscribe.checks import check_kinds, check_number, is_lot
from anyscribe.counts import Counts
from anyscribe.errors import BadLots, TooMany
from anyscribe.loose import included_lots, loose_reader, spread, tight, wide_reader
from anyscribe.lots import Follower
from anyscribe.readers import check_reader, least_of

MOST_LOTS_OF_KINDS = 4
MOST_COUNTED = 4


def check_lots(letters, lots):
    """Raise BadLots for what is no tuple of at most 4 lots of kinds."""
    if not isinstance(lots, tuple) or len(lots) > MOST_LOTS_OF_KINDS:
        raise BadLots()
    if not all([is_lot(letters, kinds) for kinds in lots]):
        raise BadLots()


def comes_of(reader, kinds):
    """The least reader of what comes of the texts of a reader by any number of deeds."""
    return tight(spread(wide_reader(least_of(reader)), kinds))


def tightened(machine):
    """A machine that says the same: that of the least reader, if this hasn't too many stands."""
    try:
        return wide_reader(tight(machine))
    except TooMany:
        return machine


def comes_in_turn(reader, lots):
    """The least reader of what comes of the texts of a reader by the deeds of one lot behind another."""
    machine = wide_reader(least_of(reader))
    for kinds in lots:
        # Only what comes at the end must be a reader; on the way a machine will do.
        machine = spread(tightened(machine), kinds)
    return tight(machine)


def stacked_rows(table, most, free):
    """For each pair (stand, deeds) the lot of the pairs that lie behind it by a table; deeds go from 0 to the most.

    The pair has the number stand + deeds * many. Whatever so many deeds lead to, more do as well; and with each stand
    come those that are free behind it.
    """
    many = len(free)
    follower = Follower(free)
    behind = []
    for stand in range(many):
        lot, known = 0, 0
        for deeds in range(most + 1):
            known |= follower.behind(table.lot(deeds, stand))
            lot |= known << (deeds * many)
        behind.append(lot)
    full = (1 << (many * (most + 1))) - 1
    return [(each << (ahead * many)) & full for ahead in range(most + 1) for each in behind]


def counting_machine(reader, kinds, most):
    """The loose machine of what comes of the texts of a least reader by at most so many deeds."""
    machine = loose_reader(reader)
    counts = Counts(machine, kinds, "")
    for _ in range(most + 1):
        counts.enter_next()
    letters, _, _, yes = machine
    free = included_lots(reader)
    rows = [stacked_rows(counts.letters[letter], most, free) for letter in letters]
    every = sum([yes << (deeds * len(free)) for deeds in range(most + 1)])
    return (letters, rows, stacked_rows(counts.texts[""], most, free), every)


def comes(reader, kinds):
    """The least reader of what comes of texts of the reader by any number of deeds."""
    check_reader(reader)
    check_kinds(reader[0], kinds)
    return comes_of(reader, kinds)


def comes_in_order(reader, lots):
    """The least reader of what comes of texts of the reader by scribes one behind another, each with a lot of kinds."""
    check_reader(reader)
    check_lots(reader[0], lots)
    return comes_in_turn(reader, lots)


def comes_by(reader, kinds, many):
    """The least reader of what comes of texts of the reader by at most so many deeds."""
    check_reader(reader)
    check_kinds(reader[0], kinds)
    check_number(many, MOST_COUNTED)
    return tight(counting_machine(least_of(reader), kinds, many))


def is_kept(reader, kinds):
    """Whether nothing new comes of the texts of the reader."""
    check_reader(reader)
    check_kinds(reader[0], kinds)
    return comes_of(reader, kinds) == least_of(reader)


def are_orders_alike(reader, one, other):
    """Whether the same comes of the texts of the reader if the one scribe is first and if the other is."""
    check_reader(reader)
    check_kinds(reader[0], one)
    check_kinds(reader[0], other)
    return comes_in_turn(reader, (one, other)) == comes_in_turn(reader, (other, one))
