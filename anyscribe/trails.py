"""Shortest ways of deeds, found in counts of them from the end back to the beginning."""

from anyscribe.counts import Counts
from anyscribe.loose import is_said, spread
from anyscribe.lots import stands_of

# A part of a way is a triple of its sort, of what it is, and of a triple (stand, to, many): from where to where it
# goes, by how many deeds. A letter that is read and a deed that is done tell no such triple.
READ = "read"
DEED = "deed"
TEXT = "text"
LETTER = "letter"
GOAL = "goal"


def ways_counted(machine, kinds, goal):
    """The counts up to the least by which a text of the machine becomes the goal; None if none does."""
    # Without asking this first, counting on and on would not tell that there is no way.
    if not is_said(spread(machine, kinds), goal):
        return None
    counts = Counts(machine, kinds, goal)
    while last_stand(counts) is None:
        counts.enter_next()
    return counts


def last_stand(counts):
    """A stand at which a text ends that becomes the goal by the last count of deeds told; None if there is none."""
    ended = stands_of(counts.goals[-1].lot(counts.many - 1, 0) & counts.machine[3])
    return ended[0] if len(ended) > 0 else None


def parted(one, other, where):
    """The parts of where that lie in the one table and in the other, one behind the other."""
    stand, to, many = where
    for part, row in one.levels.items():
        for middle in stands_of(row.get(stand, 0)):
            if other.has(many - part, middle, to):
                return (stand, middle, part), (middle, to, many - part)
    return None


def parts_of_made(counts, right, where):
    """The parts of a way whose last deed makes the r."""
    stand, to, many = where
    for left, made in counts.kinds:
        if made == right and counts.texts[left].has(many - 1, stand, to):
            return [(TEXT, left, (stand, to, many - 1)), (DEED, (left, right), None)]
    return []


def parts_of_text(counts, text, where):
    """The parts of a way whose end is the text, a beginning of an l."""
    if text == "":
        # Without a deed nothing is left of nothing alone; parts_of_made finds none then.
        return parts_of_made(counts, "", where)
    ahead, last = text[:-1], text[-1]
    one, other = parted(counts.texts[ahead], counts.letters[last], where)
    return [(TEXT, ahead, one), (LETTER, last, other)]


def parts_of_letter(counts, letter, where):
    """The parts of a way whose end is the letter, with nothing ahead of it."""
    stand, to, many = where
    at = counts.machine[0].index(letter)
    for middle in stands_of(counts.machine[1][at][stand]):
        if counts.texts[""].has(many, middle, to):
            return [(READ, letter, None), (TEXT, "", (middle, to, many))]
    return parts_of_made(counts, letter, where)


def parts_of_goal(counts, length, where):
    """The parts of a way whose end is so much of the goal's beginning."""
    if length == 0:
        return [(TEXT, "", where)]
    letter = counts.goal[length - 1]
    one, other = parted(counts.goals[length - 1], counts.letters[letter], where)
    return [(GOAL, length - 1, one), (LETTER, letter, other)]


def parts_of(counts, part):
    """The parts that make up the part of a way, one behind another."""
    sort, what, where = part
    if sort == TEXT:
        return parts_of_text(counts, what, where)
    if sort == LETTER:
        return parts_of_letter(counts, what, where)
    return parts_of_goal(counts, what, where)


def trail_of(counts):
    """The pair of a text and a tuple of deeds that lead it to the goal, by the last count told."""
    first, row = [], []
    # What is behind the place is still as it was read; what is ahead of it is as it will stay.
    place = 0
    waiting = [(GOAL, len(counts.goal), (0, last_stand(counts), counts.many - 1))]
    while waiting:
        part = waiting.pop()
        if part[0] == READ:
            first.append(part[1])
            place += 1
        elif part[0] == DEED:
            left, right = part[1]
            place -= len(left)
            row.append((place, left, right))
            place += len(right)
        else:
            waiting.extend(parts_of(counts, part)[::-1])
    return "".join(first), tuple(row)
