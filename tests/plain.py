"""Expressions and programs, read in other and slower ways than the package does, to hold it against."""

import re
from itertools import product

KEYS = set("letters book kinds ask has comes bears apart same fewest end count".split())
PIECE = re.compile(r"[a-z]+|[A-Z]+|[0-9]+|[^ \n]")
ASKS = {"has": "BS", "comes": "BKS", "bears": "BK", "apart": "BBK", "same": "BB", "fewest": "SSK", "end": "SK",
        "count": "B9"}


class Refused(Exception):
    """A piece cannot stand at the place."""


def class_of(piece):
    """One sign for the sort of a piece: w word, N name, 9 number, ! what can stand nowhere, else the piece itself."""
    if re.fullmatch("[a-z]+", piece):
        return piece if piece in KEYS else "w" if len(piece) <= 40 else "!"
    if re.fullmatch("[A-Z]+", piece):
        return "N" if len(piece) <= 8 else "!"
    if re.fullmatch("[0-9]+", piece):
        return "9" if piece in map(str, range(41)) else "!"
    return piece


def pieces_of(text):
    """The pieces of a text with their classes and places; a piece that lacks a blank ahead of it is of the class !"""
    found = []
    for match in PIECE.finditer(text):
        start = match.start()
        joint = match.group().isalnum() and start > 0 and re.fullmatch("[a-zA-Z0-9]", text[start - 1])
        found.append(("!" if joint else class_of(match.group()), match.group(), start))
    return found


def follow_expression(ends):
    """Takes classes of pieces one by one, yields whether the last one could stand; goes on until one of ends is taken.

    It keeps nothing but how many brackets are open and whether a thing must come.
    """
    deep, wants, taken = 0, True, 0
    stands = None
    while True:
        piece = yield stands
        if piece in ends and deep == 0 and not wants:
            return
        taken += 1
        stands = taken <= 60
        if piece == "(" and deep < 30:
            deep, wants = deep + 1, True
        elif piece in ("w", "N", ".", "_"):
            wants = False
        elif piece in ("*", "+", "?") and not wants:
            pass
        elif piece in ("|", "&", "-") and not wants:
            wants = True
        elif piece == ")" and not wants and deep > 0:
            deep -= 1
        else:
            stands = False


def follow_program():
    stands = None
    for told in ("letters", "w", ";"):
        piece = yield stands
        stands = piece == told
    while True:
        piece = yield stands
        if piece == "":
            return
        stands = piece in ("book", "kinds", "ask")
        key = piece
        if key == "ask":
            ask = yield stands
            stands = ask in ASKS
            sides = {"S": ("w", "_"), "9": ("9",), "B": ("N",), "K": ("N",)}
            for told in [sides[each] for each in ASKS.get(ask, "")] + [(";",)]:
                piece = yield stands
                stands = piece in told
            continue
        for told in ("N", "="):
            piece = yield stands
            stands = piece == told
        if key == "book":
            inner = follow_expression((";",))
            next(inner)
            try:
                while True:
                    piece = yield stands
                    stands = inner.send(piece)
            except StopIteration:
                stands = True
        else:
            while key != ";":
                for told in (("w", "_"), (">",), ("w", "_"), (",", ";")):
                    piece = yield stands
                    stands = piece in told
                key = piece


def refused_at(text, follower):
    """The place of the first piece that the follower refuses, None for a text of which it refuses none."""
    if len(text) > 2000:
        return 2000
    next(follower)
    for sort, _, place in pieces_of(text) + [("", "", len(text))]:
        try:
            if not follower.send(sort):
                return place
        except StopIteration:
            return None if sort == "" else place
    return None


def expression_refused_at(text):
    return refused_at(text, follow_expression(("",)))


def program_refused_at(text):
    return refused_at(text, follow_program())


def is_letters(word):
    return len(word) <= 4 and list(word) == sorted(set(word))


def statements_of(text):
    """The statements of a well formed program, each as a list of its pieces."""
    found = [[]]
    for _, piece, _ in pieces_of(text):
        if piece == ";":
            found.append([])
        else:
            found[-1].append(piece)
    return found[:-1]


def errors_of_words(pieces, letters, books):
    """The errors of an expression's words and names, in order."""
    for piece in pieces:
        if piece.isupper() and piece not in books:
            yield ("Unknown", piece)
        elif piece.islower():
            yield from (("NoLetter", letter) for letter in piece if letter not in letters)


def errors_of_kinds(pieces, letters):
    kinds = [each.split(">") for each in "".join(pieces).replace("_", "").split(",")]
    for left, right in kinds:
        yield from errors_of_words([left, right], letters, ())
        if left == right or len(left) > 3 or len(right) > 1:
            yield ("BadKind",)
    if len(kinds) > 12 or len(set(map(tuple, kinds))) < len(kinds):
        yield ("BadKinds",)


def errors_of(text):
    """All errors of a well formed program behind InvalidText, in the order of the text."""
    (_, letters), *rest = statements_of(text)
    if not is_letters(letters):
        yield ("BadLetters",)
    told = {"book": [], "kinds": []}
    for key, *pieces in rest:
        if key == "ask":
            for sort, piece in zip(ASKS[pieces[0]], pieces[1:]):
                if sort in "BK":
                    yield from errors_of_words([piece], letters, told["book" if sort == "B" else "kinds"])
                elif sort == "S":
                    yield from errors_of_words([piece], letters, ())
            continue
        if pieces[0] in told["book"] + told["kinds"]:
            yield ("Twice", pieces[0])
        if key == "book":
            yield from errors_of_words(pieces[2:], letters, told["book"])
        else:
            yield from errors_of_kinds(pieces[2:], letters)
        told[key].append(pieces[0])


def first_error(text):
    """The first error of a program: a tuple of its name and its field, None for none."""
    place = program_refused_at(text)
    if place is not None:
        return ("InvalidText", place)
    return next(errors_of(text), None)


def outer_places(pieces, signs):
    """Where one of the signs stands outside of all brackets."""
    deep, found = 0, []
    for at, piece in enumerate(pieces):
        deep += (piece == "(") - (piece == ")")
        if deep == 0 and piece in signs:
            found.append(at)
    return found


def tree_of(pieces):
    """The tree of a well formed expression: nested tuples of a sign and parts; it is split where it is joined last."""
    for signs in ("|", "&-"):
        places = outer_places(pieces, signs)
        if places:
            at = places[-1]
            return (pieces[at], tree_of(pieces[:at]), tree_of(pieces[at + 1:]))
    last = len(pieces) - 1
    if pieces[last] in "*+?":
        return tree_of_marked(pieces)
    start = last
    while pieces[start:].count("(") < pieces[start:].count(")"):
        start -= 1
    tree = pieces[last] if start == last else tree_of(pieces[start + 1:last])
    return tree if start == 0 else (" ", tree_of(pieces[:start]), tree)


def tree_of_marked(pieces):
    """The tree of a row that ends with marks: they go to the row's last thing, of a word to its last letter."""
    end = len(pieces)
    while pieces[end - 1] in "*+?":
        end -= 1
    thing = pieces[end - 1]
    ahead = pieces[:end - 1]
    if thing == ")":
        start = max(at for at in range(end) if pieces[at:end].count("(") == pieces[at:end].count(")"))
        tree, ahead = tree_of(pieces[start + 1:end - 1]), pieces[:start]
    elif thing.islower() and len(thing) > 1:
        tree, ahead = thing[-1], ahead + [thing[:-1]]
    else:
        tree = thing
    for mark in pieces[end:]:
        tree = (mark, tree)
    return (" ", tree_of(ahead), tree) if ahead else tree


def tree_of_text(text):
    return tree_of([piece for _, piece, _ in pieces_of(text)])


def times(texts, others, longest):
    return {one + other for one, other in product(texts, others) if len(one + other) <= longest}


def texts_meant(tree, letters, longest):
    """The set of the texts of at most so many letters that the tree of an expression means."""
    if isinstance(tree, str):
        texts = set(letters) if tree == "." else {""} if tree == "_" else {tree}
        return {text for text in texts if len(text) <= longest}
    sign, first = tree[0], texts_meant(tree[1], letters, longest)
    if sign == "?":
        return first | {""}
    if sign in "*+":
        found = {""} if sign == "*" else set(first)
        while not times(found, first, longest) <= found:
            found |= times(found, first, longest)
        return found
    other = texts_meant(tree[2], letters, longest)
    return {"|": first | other, "&": first & other, "-": first - other, " ": times(first, other, longest)}[sign]


def random_pieces(chance, letters, size, names=()):
    """The pieces of a random expression of about so many things."""
    if size <= 1:
        things = [".", "_"] + ["".join(chance.choices(letters, k=chance.randint(1, 3))) for _ in range(5)]
        pieces = [chance.choice(things + list(names) * 3)]
    else:
        left = chance.randint(1, size - 1)
        sign = chance.choice((["|"], ["&"], ["-"], [], [], []))
        pieces = (random_pieces(chance, letters, left, names) + sign
                  + random_pieces(chance, letters, size - left, names))
    while chance.random() < 0.25:
        pieces = ["("] + pieces + [")"]
    while pieces[-1] not in "|&-(" and chance.random() < 0.25:
        pieces = pieces + [chance.choice("*+?")]
    return pieces


def spread(pieces, chance, missing=0.0):
    """A text of the pieces, with random blanks and line ends between them; sometimes one that is needed is missing."""
    text = ""
    for piece in pieces:
        needed = text != "" and text[-1].isalnum() and piece[:1].isalnum() and chance.random() >= missing
        text += chance.choice((" ", "\n", "  ", " \n ") if needed else ("", "", " ", "\n", "\n\n ")) + piece
    return text + chance.choice(("", "", " ", "\n"))
