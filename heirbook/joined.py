"""The ways of words, words that are alike, and the word of a word."""

from heirbook.errors import Marked, TooMany
from heirbook.least import leads_there, least
from heirbook.pieces import Said
from heirbook.tongues import said_in
from heirbook.trees import book_of
from heirbook.ways import MOST_STEPS

MOST_WAYS = 60


def count_of(choices):
    """How many rows of steps come of a list of lists of ways, one of each list put behind the other."""
    count = 1
    for ways in choices:
        count = count * len(ways)
    return count


def put_behind(rows, ways):
    longer = []
    for row in rows:
        longer.extend([row + way for way in ways])
    return longer


def rows_of(choices):
    # Without this look a piece without ways could come behind more rows than can be kept.
    if count_of(choices) == 0:
        return []
    rows = [()]
    for ways in choices:
        rows = put_behind(rows, ways)
    return rows


def each_once(things):
    found = {}
    for thing in things:
        found[thing] = True
    return list(found)


def is_within_other(way, ways):
    """Whether the way is within another one of the ways, of which no two are alike."""
    told = book_of(way)
    return any([other != way and leads_there(told, other) for other in ways])


def widest(rows):
    """The least ways of rows of steps that are no nevers, each once, but for those within another one; sorted."""
    found = [least(row) for row in each_once(rows)]
    ways = sorted(each_once([way for way in found if way is not None]))
    return [way for way in ways if not is_within_other(way, ways)]


def ways_by_parts(parts):
    """The ways that parts give, each a list of its pieces' lists of ways; None where there are too many."""
    if sum([count_of(choices) for choices in parts]) > MOST_WAYS:
        return None
    rows = []
    for choices in parts:
        rows.extend(rows_of(choices))
    if any([len(row) > MOST_STEPS for row in rows]):
        return None
    return widest(rows)


def ways_of_piece(piece, told):
    if isinstance(piece, Said):
        return told[piece.word]
    return [(piece.text(),)]


def has_mark(parts):
    return any([mark != "" for pieces, mark in parts])


def ways_of_row(parts, told):
    """The ways of a word by its parts and by the ways of words above; None where 5.2 refuses it."""
    if has_mark(parts) or not all([word in told for word in said_in(parts)]):
        return None
    choices = []
    for pieces, mark in parts:
        choices.append([ways_of_piece(piece, told) for piece in pieces])
    return ways_by_parts(choices)


def ways_by_words(tongue, words):
    """A dict from words to their ways, without those that 5.2 refuses; what words say stands among them, ahead."""
    told = {}
    for word in words:
        ways = ways_of_row(tongue.row_of(word), told)
        if ways is not None:
            told[word] = ways
    return told


def ways_among(tongue, told, word):
    """The ways of a word out of what ways_by_words told, or its refusal."""
    if word in told:
        return told[word]
    if any([has_mark(tongue.row_of(said)) for said in tongue.needed_for(word)]):
        raise Marked("the word, or one that it says, has a mark")
    raise TooMany("a word gives more than 60 rows of steps, or one of more than 24 steps")


def ways_of(tongue, word):
    # Asked for the refusal alone.
    tongue.row_of(word)
    return ways_among(tongue, ways_by_words(tongue, tongue.needed_for(word)), word)


def beyond(ways, others):
    """The book of one of the ways that is within none of the others; None where each is within one of them.

    Where all the others are a word's ways, that is enough: the book of a way has no more than the way asks for.
    """
    for way in ways:
        told = book_of(way)
        if not any([leads_there(told, other) for other in others]):
            return told
    return None


def split(tongue, word, other, second=None):
    against = tongue if second is None else second
    # Asked for the refusal alone, which comes ahead of the first word's other ones.
    against.row_of(other)
    ways = ways_of(tongue, word)
    others = ways_of(against, other)
    told = beyond(ways, others)
    return beyond(others, ways) if told is None else told


def word_of(tongue, first, second):
    # Asked for the refusals alone.
    tongue.row_of(first)
    tongue.row_of(second)
    told = ways_by_words(tongue, tongue.words())
    joined = ways_by_parts([[ways_among(tongue, told, first), ways_among(tongue, told, second)]])
    if joined is None:
        raise TooMany("the joined word gives more than 60 rows of steps, or one of more than 24 steps")
    # Words that are alike have the very same ways: the least ones, and none that is within another one of them.
    return [word for word in told if told[word] == joined]
