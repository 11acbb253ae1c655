"""Loose machines, by which is told what can come of texts: a letter leads from a stand to a lot of stands.

A loose machine is a tuple (letters, rows, free, yes): rows tells for each letter, of each stand, the lot to which it
leads; free of each stand the lot that is come to without a letter, the stand itself too; yes is the lot of the stands
that say yes. It begins at the stand 0, and says yes to a text if some way of reading it ends at a stand of yes.
Whatever the rows lead to, they lead as well to what is free behind it.
"""

from anyscribe.lots import Follower, is_hopeless, least_by_lots, lot_where, steps_of
from anyscribe.machines import sources_of


def loose_reader(reader):
    """The loose machine of a least reader."""
    letters, _, yes = reader
    steps = steps_of(reader, 0, 0)
    rows = [list(row) for row in zip(*steps)]
    return (letters, rows, [1 << stand for stand in range(len(yes))], lot_where(yes))


def parted_one_way(reader):
    """A dict of the pairs (one, other) of stands such that some text leads from the one to yes, from the other not."""
    _, rows, yes = reader
    stands = range(len(rows))
    sources = sources_of(rows)
    waiting = [(stand, place) for stand in stands for place in stands if yes[stand] and not yes[place]]
    found = {pair: True for pair in waiting}
    while waiting:
        one, other = waiting.pop()
        for leading in sources:
            for pair in [(stand, place) for stand in leading[one] for place in leading[other]]:
                if pair not in found:
                    found[pair] = True
                    waiting.append(pair)
    return found


def included_lots(reader):
    """For each stand of a least reader the lot of itself and of those that lead to yes by no other texts than it does.

    Stands that lead to no yes at all are left out, as lots with them would say nothing more.
    """
    parted = parted_one_way(reader)
    lots = []
    for other in range(len(reader[1])):
        lot = 1 << other
        for one in range(len(reader[1])):
            if one != other and (one, other) not in parted and not is_hopeless(reader, one):
                lot += 1 << one
        lots.append(lot)
    return lots


def wide_reader(reader):
    """The loose machine of a least reader in which each stand leads without a letter to those that it includes.

    It says no more than without them, but unlike lots that say the same come far less often.
    """
    letters, rows, _, yes = loose_reader(reader)
    free = included_lots(reader)
    return (letters, [rows_through(row, free) for row in rows], free, yes)


def loose_line(letters, text):
    """The loose machine that says yes to the text alone."""
    many = len(text)
    rows = [[2 << stand if each == letter else 0 for stand, each in enumerate(text)] + [0] for letter in letters]
    return (letters, rows, [1 << stand for stand in range(many + 1)], 1 << many)


def beginnings(texts):
    """All beginnings of the texts, each once, but the empty one; shorter ones are ahead of longer ones."""
    found = {text[:end]: True for text in texts for end in range(1, len(text) + 1)}
    return sorted(list(found), key=len)


def rows_through(rows, others):
    """For each stand the lot behind it by both rows, one behind the other."""
    follower = Follower(others)
    return [follower.behind(lot) for lot in rows]


def rows_joined(rows, lists):
    """For each stand the lot of the stands behind it by the rows or by one of the lists."""
    joined = list(rows)
    for others in lists:
        joined = [one | other for one, other in zip(joined, others)]
    return joined


def rows_of_texts(machine, texts):
    """A dict that tells of each beginning of the texts for each stand the lot to which it leads."""
    letters, rows, free, _ = machine
    found = {"": free}
    for text in beginnings(texts):
        found[text] = rows_through(found[text[:-1]], rows[letters.index(text[-1])])
    return found


def spread_once(machine, kinds):
    """The machine that reads each r, too, where the machine reads its l."""
    letters, rows, free, yes = machine
    told = rows_of_texts(machine, [left for left, _ in kinds])
    wider = rows_joined(free, [told[left] for left, right in kinds if right == ""])
    wider = rows_through(wider, wider)
    found = []
    for letter, row in zip(letters, rows):
        joined = rows_joined(row, [told[left] for left, right in kinds if right == letter])
        found.append(rows_through(joined, wider))
    return (letters, found, wider, yes)


def spread(machine, kinds):
    """The machine that says yes to what comes of the machine's texts by any number of deeds."""
    # As no r is longer than a letter, each deed is one more way between two stands that there are already.
    now = machine
    wider = spread_once(now, kinds)
    while wider != now:
        now = wider
        wider = spread_once(now, kinds)
    return now


def is_said(machine, text):
    """Whether the machine says yes to the text."""
    _, _, _, yes = machine
    return rows_of_texts(machine, [text])[text][0] & yes > 0


def tight(machine):
    """The least reader that says the same; TooMany(200) as least_by_lots."""
    letters, rows, free, yes = machine
    return least_by_lots(letters, list(zip(*rows)), free[0], yes)
