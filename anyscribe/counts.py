"""How many deeds lead from texts to others, told count by count.

Deeds are counted over the texts that lead from one stand to another of a loose machine with nothing free: each letter
of what has become of such a text came of a part of it, so the deeds of the parts add up, whatever their order.
"""

from anyscribe.loose import beginnings
from anyscribe.lots import stands_of


class Table:
    """For each stand, which others are come to behind it, and by how many deeds at least."""

    def __init__(self):
        # For each count of deeds a dict that tells of each stand the lot of those come to by no fewer.
        self.levels = {}
        # For each stand the lot of those come to by any count told so far.
        self.known = {}

    def enter(self, many, stand, lot):
        """Note that so many deeds lead from the stand to those of the lot; those come to by fewer are left out."""
        known = self.known.get(stand, 0)
        fresh = lot - (lot & known)
        if fresh > 0:
            row = self.levels.setdefault(many, {})
            row[stand] = row.get(stand, 0) | fresh
            self.known[stand] = known | fresh

    def row(self, many):
        """A dict that tells of each stand the lot of those come to by so many deeds and no fewer."""
        return self.levels.get(many, {})

    def lot(self, many, stand):
        """The lot of the stands come to behind the stand by so many deeds and no fewer."""
        return self.row(many).get(stand, 0)

    def has(self, many, stand, to):
        """Whether so many deeds and no fewer lead from the one stand to the other."""
        return self.lot(many, stand) >> to & 1 == 1


def lot_behind(lot, row):
    """The lot of the stands that the row tells of those of the lot."""
    found = 0
    for stand in stands_of(lot):
        found |= row.get(stand, 0)
    return found


def enter_joined(table, one, other, many):
    """Enter what so many deeds lead to by the one table and the other behind it."""
    for part, row in list(one.levels.items()):
        others = other.row(many - part)
        if len(others) > 0:
            for stand, lot in list(row.items()):
                table.enter(many, stand, lot_behind(lot, others))


class Counts:
    """What the texts of a loose machine become by how many deeds of a lot of kinds, for the counts told so far.

    In texts stands for each beginning of an l, the empty one too, from where to where parts of texts become it; in
    letters for each letter the same, but with nothing ahead of the letter that became nothing. In goals stands, for
    each beginning of the goal by its length, the same from the stand 0 on.
    """

    def __init__(self, machine, kinds, goal):
        self.machine = machine
        self.kinds = kinds
        self.goal = goal
        self.many = 0
        self.beginnings = beginnings([left for left, _ in kinds])
        self.texts = {text: Table() for text in [""] + self.beginnings}
        self.letters = {letter: Table() for letter in machine[0]}
        self.goals = [Table() for _ in range(len(goal) + 1)]

    def enter_made(self, table, right):
        """Enter where the last deed makes this r: so many deeds and one fewer led to its l."""
        for left, made in self.kinds:
            if made == right:
                for stand, lot in list(self.texts[left].row(self.many - 1).items()):
                    table.enter(self.many, stand, lot)

    def enter_nothing(self):
        """Enter what becomes the empty text."""
        table = self.texts[""]
        if self.many == 0:
            for stand in range(len(self.machine[2])):
                table.enter(0, stand, 1 << stand)
        self.enter_made(table, "")

    def enter_letter(self, letter, steps):
        """Enter what becomes the letter, with what becomes nothing behind it; steps are the machine's by it."""
        table = self.letters[letter]
        nothing = self.texts[""].row(self.many)
        for stand, lot in enumerate(steps):
            table.enter(self.many, stand, lot_behind(lot, nothing))
        self.enter_made(table, letter)

    def enter_goals(self):
        """Enter what becomes the beginnings of the goal."""
        self.goals[0].enter(self.many, 0, self.texts[""].lot(self.many, 0))
        for at, letter in enumerate(self.goal):
            enter_joined(self.goals[at + 1], self.goals[at], self.letters[letter], self.many)

    def enter_next(self):
        """Enter all that so many deeds lead to, and go on to one deed more."""
        # Where a deed is done, its l came of one deed less: so each table needs only those filled ahead of it.
        self.enter_nothing()
        for letter, steps in zip(self.machine[0], self.machine[1]):
            self.enter_letter(letter, steps)
        for text in self.beginnings:
            enter_joined(self.texts[text], self.texts[text[:-1]], self.letters[text[-1]], self.many)
        self.enter_goals()
        self.many += 1
