"""Copying told in plain and slow ways, to hold the package against: by sets of texts, and by sets of edges."""

from tests.support import said, texts_of


def all_kinds(letters, longest=3):
    return [(left, right) for left in texts_of(letters, longest) for right in ("",) + tuple(letters) if left != right]


def random_kinds(chance, letters, most=3):
    kinds = all_kinds(letters)
    lengths = chance.choice(((0, 1, 2, 3), (1, 2, 3), (0, 1), (2, 3)))
    kinds = [kind for kind in kinds if len(kind[0]) in lengths]
    return tuple(chance.sample(kinds, chance.randint(0, min(most, len(kinds)))))


def plain_deeds(kinds, text):
    """All deeds, by the definition alone, in their order."""
    found = []
    for left, right in kinds:
        for place in range(len(text) + 1):
            if text[:place] + left + text[place + len(left):] == text:
                found.append((place, left, right))
    return tuple(sorted(found, key=lambda deed: (deed[0], len(deed[1]), deed[1], len(deed[2]), deed[2])))


def plain_copy(text, deed):
    place, left, right = deed
    return text[:place] + right + text[place + len(left):]


def led(kinds, text, row):
    """The text behind a row of deeds, None if one of them is none; and the lengths of all texts on the way."""
    lengths = [len(text)]
    for deed in row:
        if deed not in plain_deeds(kinds, text):
            return None, lengths
        text = plain_copy(text, deed)
        lengths.append(len(text))
    return text, lengths


def ancestors(kinds, text, many):
    """A dict of all texts, however long, from which at most so many deeds lead to the text, to how many."""
    found = {text: 0}
    level = [text]
    for count in range(1, many + 1):
        # A deed taken back puts l where r stands.
        ahead = {plain_copy(each, (place, right, left)) for each in level for left, right in kinds
                 for place in range(len(each) + 1) if each[place:place + len(right)] == right}
        level = sorted(ahead - set(found))
        found.update(dict.fromkeys(level, count))
    return found


def descendants(kinds, texts, longest):
    """All texts of at most so many letters that come of the texts by deeds, none of the texts on the way longer."""
    found = set(texts)
    waiting = sorted(found)
    while waiting:
        text = waiting.pop()
        for deed in plain_deeds(kinds, text):
            copy = plain_copy(text, deed)
            if len(copy) <= longest and copy not in found:
                found.add(copy)
                waiting.append(copy)
    return found


def texts_said(reader, longest):
    return [text for text in texts_of(reader[0], longest) if said(reader, text)]


def paths(edges, stands, text):
    """To which stands the text leads from the stands, by edges (from, letter or nothing, to)."""
    stands = set(stands)
    while True:
        more = stands | {to for at, letter, to in edges if letter == "" and at in stands}
        if more == stands:
            break
        stands = more
    if text == "":
        return stands
    return paths(edges, {to for at, letter, to in edges if letter == text[0] and at in stands}, text[1:])


def plain_edges(reader, kinds):
    """The edges of a reader, and with them one for each r that comes where its l leads, until there is no other."""
    letters, rows, _ = reader
    edges = {(stand, letter, to) for stand, row in enumerate(rows) for letter, to in zip(letters, row)}
    while True:
        more = {(stand, right, to) for left, right in kinds for stand in range(len(rows))
                for to in paths(edges, [stand], left)}
        if more <= edges:
            return edges
        edges |= more


def plain_reader(letters, edges, yes):
    """The reader that reads the edges in all ways at once; it may have any many stands."""
    stands = [frozenset(paths(edges, [0], ""))]
    rows = []
    for lot in stands:
        row = []
        for letter in letters:
            to = frozenset(paths(edges, lot, letter) and paths(edges, paths(edges, lot, letter), ""))
            if to not in stands:
                stands.append(to)
            row.append(stands.index(to))
        rows.append(tuple(row))
    return (letters, tuple(rows), tuple(any(yes[stand] for stand in lot) for lot in stands))


def plain_comes(reader, kinds):
    return plain_reader(reader[0], plain_edges(reader, kinds), reader[2])


def are_one(one, other):
    """Whether two readers say the same of every text, by all pairs of stands that a text leads to."""
    pairs = [(0, 0)]
    for first, second in pairs:
        if one[2][first] != other[2][second]:
            return False
        for pair in zip(one[1][first], other[1][second]):
            if pair not in pairs:
                pairs.append(pair)
    return True
