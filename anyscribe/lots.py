"""Readers made of others by reading texts in all ways at once.

A lot of stands is an integer with a bit for each stand: those to which a text leads, each by some way of reading it.
"""

from anyscribe.machines import explored, shrunk

MOST_LOTS = 20000
# How many stands beside one another are followed at once, and the bits of them all.
PART = 8
FULL_PART = 255


def lot_where(yes):
    """The lot of the stands that say yes."""
    return sum([1 << stand for stand, said in enumerate(yes) if said])


def stands_of(lot):
    """The list of the stands of a lot."""
    stands = []
    rest = lot
    while rest > 0:
        stand = rest.bit_length() - 1
        rest -= 1 << stand
        stands.append(stand)
    return stands


class Follower:
    """Tells to which lot the stands of a lot lead; rows tells the lot to which each stand leads."""

    def __init__(self, rows):
        self.rows = rows
        self.kept = {}

    def behind_part(self, first, part):
        """The lot behind the stands that the bits of the part mean, counted from the first one on."""
        found = 0
        for at in range(PART):
            if part >> at & 1 == 1:
                found |= self.rows[first + at]
        return found

    def behind(self, lot):
        """The lot to which the stands of the lot lead."""
        found = 0
        first = 0
        rest = lot
        while rest > 0:
            # The same few stands beside one another come again and again, so that what is behind them is kept.
            part = rest & FULL_PART
            if (first, part) not in self.kept:
                self.kept[(first, part)] = self.behind_part(first, part)
            found |= self.kept[(first, part)]
            first += PART
            rest >>= PART
        return found


def least_by_lots(letters, steps, start, yes):
    """The least reader that says yes where a stand of the lot yes can be come to from the lot start.

    For each stand and each letter steps tells the lot to which it leads. TooMany(200) for more stands, or for more than
    20000 lots on the way.
    """
    followers = [Follower(rows) for rows in zip(*steps)]
    lots, rows = explored(start, lambda lot: [follower.behind(lot) for follower in followers], MOST_LOTS)
    return shrunk(letters, rows, [(lot & yes) > 0 for lot in lots])


def is_hopeless(reader, stand):
    """Whether the stand of a least reader leads to no yes."""
    _, rows, yes = reader
    return not yes[stand] and all([to == stand for to in rows[stand]])


def steps_of(reader, first, entered):
    """For each stand of a least reader and each letter the lot to which it leads, its stands numbered from first on.

    With each stand that says yes comes the lot entered, too: there another reading may begin.
    """
    _, rows, yes = reader
    brought = []
    for stand, said in enumerate(yes):
        # A stand that leads to no yes would only make unlike lots of like ones.
        lot = 0 if is_hopeless(reader, stand) else 1 << (first + stand)
        brought.append(lot | entered if said else lot)
    return [[brought[to] for to in row] for row in rows]


def in_row(one, other):
    """The least reader of a text of the one and a text of the other behind it; both are least readers."""
    letters, rows, yes = one
    entered = 1 << len(rows)
    start = 1 | entered if yes[0] else 1
    steps = steps_of(one, 0, entered) + steps_of(other, len(rows), 0)
    return least_by_lots(letters, steps, start, lot_where(other[2]) << len(rows))


def once_or_more(reader):
    """The least reader of one text or more of a least reader, one behind another."""
    return least_by_lots(reader[0], steps_of(reader, 0, 1), 1, lot_where(reader[2]))


def any_times(reader):
    """The least reader of any many texts of a least reader, none too, one behind another."""
    letters, rows, yes = reader
    steps = steps_of(reader, 0, 1)
    # One stand more says yes to the empty text and goes on like the first one; none leads back to it.
    begin = 1 << len(rows)
    return least_by_lots(letters, steps + [steps[0]], begin, lot_where(yes) | begin)


def once_or_not(reader):
    """The least reader of the texts of a reader and the empty one."""
    letters, rows, yes = reader
    wider = rows + (rows[0],)
    said = yes + (True,)
    stands, numbered = explored(len(rows), lambda stand: wider[stand])
    return shrunk(letters, numbered, [said[stand] for stand in stands])
