"""Programs, run: their asks are answered in order."""

from anyscribe.books import reader_by
from anyscribe.copying import comes
from anyscribe.menders import mended
from anyscribe.parting import are_apart
from anyscribe.programs import ASKS
from anyscribe.readers import are_alike, count, verdict
from anyscribe.reading import checked
from anyscribe.standing import bears
from anyscribe.ways import fewest


def answer_of(letters, key, parts):
    """The answer to an ask; its parts are readers, kinds, texts and numbers."""
    if key == "fewest":
        text, other, kinds = parts
        return fewest(letters, kinds, text, other)
    if key == "end":
        text, mender = parts
        return mended(letters, mender, text)
    if key == "comes":
        reader, kinds, text = parts
        return verdict(comes(reader, kinds), text)
    if key == "has":
        return verdict(*parts)
    if key == "bears":
        return bears(*parts)
    if key == "apart":
        return are_apart(*parts)
    if key == "same":
        return are_alike(*parts)
    return count(*parts)


def parts_meant(told, key, parts):
    """The parts of an ask with what is told of a name in the place of each name."""
    return [told[part] if sort in ("book", "kinds") else part for sort, part in zip(ASKS[key], parts)]


def run(text):
    """The tuple of the answers of the asks of a program, in order."""
    letters, statements = checked(text)
    # Of each name its reader, or its kinds: as they are told one by one, the first wrong statement raises its error.
    told = {}
    answers = []
    for sort, name, meant in statements:
        if sort == "book":
            told[name] = reader_by(letters, told, meant)
        elif sort == "kinds":
            told[name] = meant
        else:
            answers.append(answer_of(letters, name, parts_meant(told, name, meant)))
    return tuple(answers)
