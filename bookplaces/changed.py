"""Editions changed to new ones, in which each line that is left stays with its part."""

from bookplaces.editions import MOST_VERSE_PARTS, MOST_VERSES, Edition, check_edition
from bookplaces.errors import NoDeed, NoNames, NoNumber, NoPlaces, NoSpot, TooMany
from bookplaces.places import is_places_of, numbered, spot_places
from bookplaces.words import is_name, is_row, is_tuple, is_whole

MOST_DEEDS = 500


def renamed(edition, names):
    """The edition with other names, by a dict from each name to the other one."""
    check_edition(edition)
    if not is_renaming(edition, names):
        raise NoNames(names)
    books, pairs = edition.told()
    return Edition([(names[name], chapters) for name, chapters in books], pairs)


def reordered(edition, names):
    """The edition with its books in the order of these names."""
    check_edition(edition)
    if not (isinstance(names, (list, tuple)) and has_just(edition, names)):
        raise NoNames(names)
    books, _ = edition.told()
    chapters = dict(books)
    numbers = [number for name in names for number in spot_places(edition, (name,)).numbers()]
    return with_parts(edition, [(name, chapters[name]) for name in names], numbers)


def divided(edition, spot, many=1):
    """The edition in which a verse is two, the first of them with its first many parts."""
    check_edition(edition)
    parts = parts_of_verse(edition, spot)
    if not is_whole(many, 1, parts - 1):
        raise NoNumber(many)
    name, chapter, _ = spot
    verses = edition.verses(name, chapter)
    if verses == MOST_VERSES:
        raise TooMany(verses + 1)
    return with_verses(edition, spot, 1, [many, parts - many])


def merged(edition, spot):
    """The edition in which a verse and the next one of its chapter are one."""
    check_edition(edition)
    parts = parts_of_verse(edition, spot)
    name, chapter, verse = spot
    # Where there is no next verse this refuses its number.
    parts = parts + edition.parts(name, chapter, verse + 1)
    if parts > MOST_VERSE_PARTS:
        raise TooMany(parts)
    return with_verses(edition, spot, 2, [parts])


def lessened(edition, places):
    """The edition without the parts of some places."""
    check_edition(edition)
    if not is_places_of(edition, places) or len(places) == edition.size():
        raise NoPlaces(places)
    numbers = places.rest().numbers()
    return with_parts(edition, books_of([edition.verse_of(number) for number in numbers]), numbers)


def lessened_by(edition, numbers):
    """The edition without the parts of these numbers."""
    return lessened(edition, numbered(edition, numbers))


# How many things stand behind the word of a deed, and which change it is.
COUNTS = {"rename": 1, "reorder": 1, "divide": 2, "merge": 1, "lessen": 1}
CHANGES = {"rename": renamed, "reorder": reordered, "divide": divided, "merge": merged, "lessen": lessened_by}


def changed(edition, deeds):
    """The edition behind all deeds, one behind the other."""
    check_edition(edition)
    if not is_row(deeds, 0, MOST_DEEDS):
        raise NoDeed(deeds)
    for deed in deeds:
        edition = behind_deed(edition, deed)
    return edition


def behind_deed(edition, deed):
    """The edition behind one deed."""
    if not is_deed(deed):
        raise NoDeed(deed)
    word, *things = deed
    change = CHANGES[word]
    return change(edition, *things)


def is_deed(thing):
    """Whether thing is a tuple of a word for a change and as many things as this one takes."""
    if not (isinstance(thing, tuple) and len(thing) > 0):
        return False
    word = thing[0]
    # Only a text is looked up: a list or a dict can't be.
    return isinstance(word, str) and word in COUNTS and len(thing) == 1 + COUNTS[word]


def is_renaming(edition, thing):
    """Whether thing is a dict from just the edition's names to unlike names."""
    if not isinstance(thing, dict) or not has_just(edition, thing):
        return False
    names = list(thing.values())
    return all([is_name(name) for name in names]) and len(set(names)) == len(names)


def has_just(edition, names):
    """Whether names are just the edition's names, each of them once, in any order."""
    own = edition.names()
    # As many things as there are names, which are unlike: so each of them stands there once, and nothing else does.
    return len(names) == len(own) and all([name in names for name in own])


def parts_of_verse(edition, spot):
    """How many parts a verse has, by its spot of three."""
    if not is_tuple(spot, 3, 3):
        raise NoSpot(spot)
    return edition.parts(*spot)


def with_verses(edition, spot, gone, counts):
    """The edition that has verses of so many parts where so many verses stood, from the one of the spot on."""
    name, chapter, verse = spot
    books, pairs = edition.told()
    copies = {book: [list(verses) for verses in chapters] for book, chapters in books}
    copies[name][chapter - 1][verse - 1:verse - 1 + gone] = counts
    return Edition(list(copies.items()), pairs)


def with_parts(edition, books, numbers):
    """The edition of these books whose lines are those of an edition's parts of these numbers, in order."""
    return Edition(books, [(edition.line_at(number), 1) for number in numbers])


def books_of(verses):
    """Books, numbered without a gap, that have a part for each spot of a verse that stands here."""
    counts = {}
    for spot in verses:
        counts[spot] = counts.get(spot, 0) + 1
    books = {}
    for (name, chapter, _), parts in counts.items():
        books.setdefault(name, {}).setdefault(chapter, []).append(parts)
    return [(name, list(chapters.values())) for name, chapters in books.items()]
