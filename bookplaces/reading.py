"""Writings read: from a text to the places that it tells."""

from bookplaces.editions import check_edition
from bookplaces.errors import LostError, NoBook, NoChapter, NoMark, NoPart, NoSaid, NoVerse, NoWriting
from bookplaces.places import places_of_stretches
from bookplaces.words import is_name, number_in, part_in

MARKS = ",;-"
HIGHEST_NUMBER = 999


class Reading:
    """What a text tells, read by an edition; `read` makes it, and it never changes."""

    def __init__(self, edition, text, said, pieces):
        spots = [(at, spot) for at, _, spot in pieces]
        self._text = text
        self._spots = spots
        self._said = spots[-1][1] if spots else said
        self._stretches = stretches_told(edition, pieces)
        self._places = places_of_stretches(edition, self._stretches)

    def places(self):
        """The places of all parts that the text tells."""
        return self._places

    def stretches(self):
        """The first part and the last part of each item, in the text's order."""
        return list(self._stretches)

    def spots(self):
        """Of each piece the number of its first sign and its spot, in order."""
        return list(self._spots)

    def said(self):
        """What was said last."""
        return self._said

    def in_order(self):
        """Whether each item but the first one stands behind the one ahead of it."""
        return all([ahead[1] < behind[0] for ahead, behind in zip(self._stretches, self._stretches[1:])])

    def __len__(self):
        return len(self._stretches)

    def __str__(self):
        return str(self._text)


def read(edition, text, said=None, mark=","):
    """The reading of a text behind what was said, its first piece with this mark."""
    check_edition(edition)
    check_said(edition, said)
    check_mark(mark)
    return reading_behind(edition, text, said, mark)


def reader(edition, said=None, mark=","):
    """A function that tells the places of a text that is read in this way."""
    check_edition(edition)
    check_said(edition, said)
    check_mark(mark)

    def ask(text):
        return reading_behind(edition, text, said, mark).places()

    return ask


def places_read(edition, text):
    """The places as which a text is read with nothing said; None where it is refused."""
    try:
        return read(edition, text).places()
    except NoWriting:
        return None


def reading_behind(edition, text, said, mark):
    """The reading of a text behind a spot of the edition or None, and a mark."""
    return Reading(edition, text, said, pieces_read(edition, text, said, mark))


def check_said(edition, said):
    """Refuse what is neither None nor a spot of the edition."""
    if said is None:
        return
    try:
        edition.stretch(said)
    except LostError:
        raise NoSaid(said) from None


def check_mark(mark):
    """Refuse what can't stand ahead of a first piece."""
    if mark not in (",", ";"):
        raise NoMark(mark)


def pieces_read(edition, text, said, mark):
    """The pieces of a text as tuples (at, mark, spot), refused at the first one that can't be read."""
    if not isinstance(text, str):
        raise NoWriting(0, "text")
    pieces = []
    for at, sign, piece in pieces_cut(text, mark):
        if sign == "-" and pieces[-1][1] == "-":
            raise NoWriting(at - 1, "again")
        said = spot_told(edition, piece, at, sign, said)
        if sign == "-" and last_part(edition, said) <= last_part(edition, pieces[-1][2]):
            raise NoWriting(at, "order")
        pieces.append((at, sign, said))
    return pieces


def pieces_cut(text, mark):
    """The pieces of a text as tuples (at, mark, piece), where the first one has this mark."""
    if text == "":
        return []
    pieces = []
    start = 0
    for at, sign in enumerate(text):
        if sign in MARKS:
            pieces.append((start, mark, text[start:at]))
            start, mark = at + 1, sign
    pieces.append((start, mark, text[start:]))
    return pieces


def spot_told(edition, piece, at, mark, said):
    """The spot that a piece tells, which begins at a sign of its text."""
    form = form_of(piece)
    if form is None:
        raise NoWriting(at, "form")
    name, numbers, part = form
    if name == "" and said is None:
        raise NoWriting(at, "said")
    try:
        spot = spot_meant(edition, name, numbers, mark, said)
        edition.stretch(spot)
        if part is not None:
            spot = part_of_verse(spot, part)
            edition.stretch(spot)
    except NoBook:
        raise NoWriting(at, "book") from None
    except NoChapter:
        raise NoWriting(at, "chapter") from None
    except NoVerse:
        raise NoWriting(at, "verse") from None
    except NoPart:
        raise NoWriting(at, "part") from None
    return spot


def form_of(piece):
    """A piece as its name (perhaps without signs), its numbers and its part or None; None where it has no form."""
    if is_name(piece):
        return piece, [], None
    name, blank, tail = piece.rpartition(" ")
    if blank and not is_name(name):
        return None
    part = part_in(tail[-1:])
    figures = tail if part is None else tail[:-1]
    numbers = [number_in(word, 1, HIGHEST_NUMBER) for word in figures.split(":")]
    if len(numbers) > 2 or None in numbers:
        return None
    return name, numbers, part


def spot_meant(edition, name, numbers, mark, said):
    """The book, chapter or verse that a name and numbers mean, whether it is there or not."""
    book = name or said[0]
    if len(numbers) != 1:
        return book, *numbers
    if edition.chapters(book) == 1:
        return book, 1, *numbers
    # Behind a `,` or a `-` a number goes on in the chapter that was said, where a verse or a part of it was.
    if name == "" and mark != ";" and len(said) > 2:
        return book, said[1], *numbers
    return book, *numbers


def part_of_verse(spot, part):
    """The spot of a verse's part; refused where the spot is a chapter, which has no letters."""
    if len(spot) < 3:
        raise NoPart(part)
    return *spot, part


def last_part(edition, spot):
    """The number of a spot's last part."""
    return edition.stretch(spot)[1]


def stretches_told(edition, pieces):
    """The first part and the last part of each item."""
    stretches = []
    for _, mark, spot in pieces:
        first, last = edition.stretch(spot)
        if mark == "-":
            first, _ = stretches.pop()
        stretches.append((first, last))
    return stretches
