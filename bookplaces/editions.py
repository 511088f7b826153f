"""Editions: books, chapters, verses and parts, and the line of each part."""

from bookplaces.errors import Doubled, NoBook, NoChapter, NoEdition, NoLines, NoName
from bookplaces.errors import NoNumber, NoPart, NoSpot, NoVerse, TooMany
from bookplaces.words import is_name, is_row, is_tuple, is_whole

MOST_BOOKS = 6
MOST_BOOK_CHAPTERS = 12
MOST_VERSES = 30
MOST_VERSE_PARTS = 4
MOST_CHAPTERS = 40
MOST_PARTS = 400
MOST_PAIRS = 400
LAST_LINE = 9999


class Edition:
    """A text that is divided into books, chapters, verses and parts."""

    def __init__(self, books, lines=None):
        self._books = kept_books(books)
        self._chapters = {name: chapters for name, chapters in self._books}
        self._places = places_in(self._books)
        self._stretches = stretches_of(self._places)
        self._lines = kept_lines(lines, len(self._places))
        self._numbers = {line: number for number, line in enumerate(self._lines)}
        # Kept, as each set of places that is handed in is asked for its edition.
        self._told = (self._books, fewest_pairs(self._lines))

    def names(self):
        """The names of the books, in order."""
        return list(self._chapters)

    def size(self):
        """How many parts there are."""
        return len(self._places)

    def lines(self):
        """The lines of the parts, in order."""
        return list(self._lines)

    def chapters(self, name):
        """How many chapters the book has."""
        return len(self._book(name))

    def verses(self, name, chapter):
        """How many verses the chapter has."""
        return len(self._chapter(name, chapter))

    def parts(self, name, chapter, verse):
        """How many parts the verse has."""
        verses = self._chapter(name, chapter)
        if not is_whole(verse, 1, len(verses)):
            raise NoVerse(verse)
        return verses[verse - 1]

    def line_at(self, number):
        """The line of the part of this number."""
        self._check_number(number)
        return self._lines[number]

    def part_of(self, thing):
        """The number of the part that has this line, or None."""
        # Ahead of the look-up: True would be found as 1, and a list can't be looked up.
        if not is_whole(thing, 0, LAST_LINE):
            return None
        return self._numbers.get(thing)

    def told(self):
        """The books and the pairs of lines of which this same edition can be made."""
        return self._told

    def same(self, thing):
        """Whether thing is an edition that tells the same of itself."""
        return isinstance(thing, Edition) and self.told() == thing.told()

    def stretch(self, spot):
        """The numbers of the first part and of the last part of a spot."""
        if not is_tuple(spot, 1, 4):
            raise NoSpot(spot)
        self._check_spot(spot)
        return self._stretches[spot]

    def number(self, spot):
        """The number of the part that is this spot of four."""
        if not is_tuple(spot, 4, 4):
            raise NoSpot(spot)
        first, _ = self.stretch(spot)
        return first

    def place(self, number):
        """The spot of four that is the part of this number."""
        self._check_number(number)
        return self._places[number]

    def verse_of(self, number):
        """The spot of the verse in which the part of this number lies."""
        return self.place(number)[:3]

    def begins(self, number):
        """The spots whose first part has this number, the widest first."""
        return [spot for spot in self._spots_around(number) if self._stretches[spot][0] == number]

    def ends(self, number):
        """The spots whose last part has this number, the widest first."""
        return [spot for spot in self._spots_around(number) if self._stretches[spot][1] == number]

    def _book(self, name):
        """The chapters of a book."""
        # Only a text is looked up: a list or a dict can't be.
        if not (isinstance(name, str) and name in self._chapters):
            raise NoBook(name)
        return self._chapters[name]

    def _chapter(self, name, chapter):
        """The verses of a chapter: how many parts each of them has."""
        chapters = self._book(name)
        if not is_whole(chapter, 1, len(chapters)):
            raise NoChapter(chapter)
        return chapters[chapter - 1]

    def _spots_around(self, number):
        """The book, the chapter, the verse and the part of the part of this number."""
        place = self.place(number)
        return [place[:many] for many in range(1, 5)]

    def _check_number(self, number):
        """Refuse what is no number of a part."""
        if not is_whole(number, 0, self.size() - 1):
            raise NoNumber(number)

    def _check_spot(self, spot):
        """Refuse the first thing in a tuple of one to four that leads nowhere."""
        if len(spot) == 1:
            self._book(spot[0])
        elif len(spot) == 2:
            self._chapter(spot[0], spot[1])
        else:
            many = self.parts(spot[0], spot[1], spot[2])
            if len(spot) == 4 and not is_whole(spot[3], 1, many):
                raise NoPart(spot[3])


def check_edition(thing):
    """Refuse what is no edition."""
    if not isinstance(thing, Edition):
        raise NoEdition(thing)


def kept_books(books):
    """The books as tuples of an edition's own, refused where they make no edition."""
    if not is_row(books, 1, MOST_BOOKS):
        raise NoEdition(books)
    kept = []
    for book in books:
        names = [name for name, chapters in kept]
        kept.append(kept_book(book, names))
    check_counts(kept)
    return tuple(kept)


def kept_book(book, names):
    """A book as tuples of an edition's own, where the books ahead have these names."""
    if not is_tuple(book, 2, 2):
        raise NoEdition(book)
    name, chapters = book
    if not is_name(name):
        raise NoName(name)
    if name in names:
        raise Doubled(name)
    if not is_row(chapters, 1, MOST_BOOK_CHAPTERS):
        raise NoEdition(chapters)
    return name, tuple([kept_chapter(chapter) for chapter in chapters])


def kept_chapter(chapter):
    """A chapter as a tuple of an edition's own: how many parts each verse has."""
    if not is_row(chapter, 1, MOST_VERSES):
        raise NoEdition(chapter)
    if not all([is_whole(parts, 1, MOST_VERSE_PARTS) for parts in chapter]):
        raise NoEdition(chapter)
    return tuple(chapter)


def check_counts(books):
    """Refuse more chapters, or else more parts, than an edition may have."""
    counts = [len(chapters) for name, chapters in books]
    if sum(counts) > MOST_CHAPTERS:
        raise TooMany(sum(counts))
    parts = sum([sum(chapter) for name, chapters in books for chapter in chapters])
    if parts > MOST_PARTS:
        raise TooMany(parts)


def kept_lines(lines, size):
    """The lines of so many parts, in order, refused where they don't fit."""
    if lines is None:
        return list(range(size))
    if not is_row(lines, 0, MOST_PAIRS):
        raise NoLines(lines)
    taken = {}
    for pair in lines:
        for line in lines_of_pair(pair):
            if line in taken:
                raise NoLines(pair)
            taken[line] = True
    if len(taken) != size:
        raise NoLines(lines)
    return list(taken)


def lines_of_pair(pair):
    """The lines for which a pair stands, refused where it is no such pair."""
    if not is_tuple(pair, 2, 2):
        raise NoLines(pair)
    first, many = pair
    if not (is_whole(first, 0, LAST_LINE) and is_whole(many, 1, MOST_PARTS)):
        raise NoLines(pair)
    if first + many - 1 > LAST_LINE:
        raise NoLines(pair)
    return list(range(first, first + many))


def fewest_pairs(lines):
    """As few tuples (first, many) as may be that stand for these lines."""
    pairs = []
    for line in lines:
        # The sum of a pair is the line right behind those for which it stands.
        if pairs and line == sum(pairs[-1]):
            first, many = pairs.pop()
            pairs.append((first, many + 1))
        else:
            pairs.append((line, 1))
    return tuple(pairs)


def places_in(books):
    """The spots of four of all parts, in order."""
    places = []
    for name, chapters in books:
        for chapter, verses in enumerate(chapters, start=1):
            for verse, parts in enumerate(verses, start=1):
                places.extend([(name, chapter, verse, part) for part in range(1, parts + 1)])
    return places


def stretches_of(places):
    """For each spot the numbers of its first part and of its last one."""
    stretches = {}
    for number, place in enumerate(places):
        for many in range(1, 5):
            spot = place[:many]
            first = stretches[spot][0] if spot in stretches else number
            stretches[spot] = (first, number)
    return stretches
