"""What several tests use: wrong values of all kinds, and slow plain ways to hold the program against."""

import random
from itertools import product

# The two readers of the document's example: a b* and a b?
A_MANY_B = ("ab", ((1, 2), (2, 1), (2, 2)), (False, True, False))
A_ONE_B = ("ab", ((1, 2), (2, 3), (2, 2), (2, 2)), (False, True, False, True))


def nested(value, wrap, deep):
    for _ in range(deep):
        value = wrap(value)
    return value


# Any value as the document means it; texts are ahead of the rest, since some functions take them.
ANY = (
    "", "a", "ab", "ba", "aab", "abcde", "AB", "a1", "a b", "a\n", "\u00e4", "\u00aa", "a" * 40, "a" * 41, "?",
    None, True, False, 0, 1, -1, 2, 40, 41, 200, 10 ** 30, -10 ** 30, 10 ** 5000,
    (), (None,), (True,), (1, 2), ("a", ""), ("a", "a"), (("a", ""),), ("ab", ((0, 0),), (True,)), (0, "a", ""),
    [], [1, 2], ["a", "b"], [("a", "")], ["ab", [[0, 0]], [True]], [0, "a", ""],
    {}, {"a": "b"}, {0: ((0,), {}), (1, 2): [None]}, ({},), ([],), ({}, []), (0, {}, []), ([], {}, ()),
    nested("a", lambda value: (value,), 30), nested(0, lambda value: [value], 30),
    nested(None, lambda value: {"k": value}, 30), nested(True, lambda value: ({"k": [value]},), 10),
)


def texts_of(letters, longest):
    """All texts of at most so many letters, ascending."""
    for length in range(longest + 1):
        for row in product(letters, repeat=length):
            yield "".join(row)


def ascending(texts):
    return tuple(sorted(texts, key=lambda text: (len(text), text)))


def said(reader, text):
    letters, rows, yes = reader
    stand = 0
    for letter in text:
        stand = rows[stand][letters.index(letter)]
    return yes[stand]


def renumbered(reader, order):
    """The same reader with its stands in another order; order[0] is 0."""
    letters, rows, yes = reader
    place = {stand: at for at, stand in enumerate(order)}
    return (letters, tuple(tuple(place[to] for to in rows[stand]) for stand in order),
            tuple(yes[stand] for stand in order))


def random_reader(chance, letters, many, part=0.5):
    rows = tuple(tuple(chance.randrange(many) for _ in letters) for _ in range(many))
    return (letters, rows, tuple(chance.random() < part for _ in range(many)))


def random_readers(seed, times, letters=("a", "ab", "abc"), most=7):
    chance = random.Random(seed)
    for _ in range(times):
        part = chance.choice((0, 0.2, 0.5, 0.8, 1))
        yield random_reader(chance, chance.choice(letters), chance.randint(1, most), part)


def random_pairs(seed, times, most=6):
    chance = random.Random(seed)
    for _ in range(times):
        letters = chance.choice(("a", "ab", "abc"))
        yield tuple(random_reader(chance, letters, chance.randint(1, most), chance.random()) for _ in range(2))


def round_of(letters, many, yes=(0,)):
    """The reader that counts its letters round and round, and says yes at the stands told."""
    rows = tuple(((stand + 1) % many,) * len(letters) for stand in range(many))
    return (letters, rows, tuple(stand in yes for stand in range(many)))


def line_of(letters, many, yes):
    """The reader that counts its letters up to its last stand, and stays there."""
    rows = tuple((min(stand + 1, many - 1),) * len(letters) for stand in range(many))
    return (letters, rows, tuple(stand in yes for stand in range(many)))


def fewest_stands(reader):
    """How many stands the least reader has, by Moore's way."""
    letters, rows, yes = reader
    come = [0]
    for stand in come:
        come.extend(sorted(set(rows[stand]) - set(come)))
    part = {stand: yes[stand] for stand in come}
    while True:
        finer = {stand: (part[stand], tuple(part[to] for to in rows[stand])) for stand in come}
        names = {key: at for at, key in enumerate(dict.fromkeys(finer.values()))}
        if len(names) == len(set(part.values())):
            return len(names)
        part = {stand: names[finer[stand]] for stand in come}


def is_numbered_as_come_to(reader):
    seen = [0]
    for stand in seen:
        for to in reader[1][stand]:
            if to not in seen:
                seen.append(to)
    return seen == list(range(len(reader[1])))
