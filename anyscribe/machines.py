"""Machines of any many stands: their rows tell for each stand the next one by each letter; all begin at 0."""

from anyscribe.errors import TooMany

MOST_STANDS = 200


def explored(start, follow, most=None):
    """The things come to from the start, in the order in which they are, and the rows of their numbers.

    The function follow tells of a thing to what each letter leads, in the order of the letters. TooMany(200) if more
    things come than the most, where that is told.
    """
    things = [start]
    numbers = {start: 0}
    rows = []
    while len(rows) < len(things):
        if most is not None and len(things) > most:
            raise TooMany(MOST_STANDS)
        reached = follow(things[len(rows)])
        row = []
        for thing in reached:
            if thing not in numbers:
                numbers[thing] = len(things)
                things.append(thing)
            row.append(numbers[thing])
        rows.append(tuple(row))
    return things, rows


def text_to(letters, rows, stand):
    """The least text that leads to the stand; the stands are numbered as they are come to."""
    # The numbering makes the first way seen to a stand the end of the least text to it.
    came = {}
    for number, row in enumerate(rows):
        for letter, to in zip(letters, row):
            came.setdefault(to, (number, letter))
    text = ""
    at = stand
    while at != 0:
        at, last = came[at]
        text = last + text
    return text


def first_text(letters, rows, yes):
    """The least text that leads to yes, None for none; the stands are numbered as they are come to."""
    if True not in yes:
        return None
    return text_to(letters, rows, yes.index(True))


def empty_lists(many):
    """So many lists, all empty."""
    return [[] for _ in range(many)]


def sources_of(rows):
    """For each letter the list that tells of each stand from which ones the letter leads to it."""
    sources = [empty_lists(len(rows)) for _ in rows[0]]
    for stand, row in enumerate(rows):
        for at, to in enumerate(row):
            sources[at][to].append(stand)
    return sources


def halves(yes):
    """The stands that say yes and those that do not, the larger half first, none that is empty."""
    sides = [[stand for stand, said in enumerate(yes) if said == side] for side in (True, False)]
    return sorted([stands for stands in sides if stands], key=len, reverse=True)


def grouped(stands, classes):
    """A dict that tells of each class which of the stands are of it."""
    groups = {}
    for stand in stands:
        groups.setdefault(classes[stand], []).append(stand)
    return groups


def part_class(classes, members, number, part):
    """Part the class into the stands of the part and the others: the smaller half becomes the new last class."""
    inside = set(part)
    rest = [stand for stand in members[number] if stand not in inside]
    small, large = sorted([part, rest], key=len)
    members[number] = large
    for stand in small:
        classes[stand] = len(members)
    members.append(small)


def classes_of(rows, yes):
    """The list that tells of each stand its class of alike stands, None for more than 200 classes.

    This is J. Hopcroft's way: the smaller half alone of a class that was parted can part others further.
    """
    members = halves(yes)
    classes = [0 for _ in rows]
    for number, stands in enumerate(members):
        for stand in stands:
            classes[stand] = number
    sources = sources_of(rows)
    width = len(rows[0])
    waiting = [(len(members) - 1, at) for at in range(width)]
    while waiting:
        number, at = waiting.pop()
        leading = [stand for to in members[number] for stand in sources[at][to]]
        groups = grouped(leading, classes)
        for hit, part in groups.items():
            if len(part) < len(members[hit]):
                part_class(classes, members, hit, part)
                waiting.extend([(len(members) - 1, each) for each in range(width)])
        # Classes are never joined again, so that too many of them now are too many at the end.
        if len(members) > MOST_STANDS:
            return None
    return classes


def shrunk(letters, rows, yes):
    """The least reader that says the same; TooMany(200) for more stands. All stands must be come to."""
    classes = classes_of(rows, yes)
    if classes is None:
        raise TooMany(MOST_STANDS)
    samples = {}
    for stand, number in enumerate(classes):
        samples.setdefault(number, stand)
    found, numbered = explored(classes[0], lambda each: [classes[to] for to in rows[samples[each]]])
    return (letters, tuple(numbered), tuple([yes[samples[each]] for each in found]))
