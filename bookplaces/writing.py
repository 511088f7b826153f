"""Places written: in full, and as short as may be."""

from bookplaces.places import check_places
from bookplaces.reading import check_mark, check_said, read
from bookplaces.words import letter_of

# What a piece needs that was said ahead of it is told by a key: a tuple of no
# things where it needs nothing, of a book's name where it needs this book, of
# a name and a chapter where a number alone must mean a verse of this chapter,
# and of a name and this where it must mean a chapter.
A_CHAPTER = 0

# A beginning is a tuple (how many signs, how many items, text). Of two that
# leave the same said behind them the lesser one, as Python compares tuples, is
# the better one, and stays so whatever is written behind both (point 51).
NOTHING = (0, 0, "")


def full(places):
    """The writing in which each run is told by its first part and its last part, by name."""
    check_places(places)
    edition = places.edition()
    return ";".join([full_run(edition, first, last) for first, last in places.runs()])


def full_run(edition, first, last):
    """A run in full."""
    ends = [first] if first == last else [first, last]
    return "-".join([full_part(edition.place(number)) for number in ends])


def full_part(place):
    """A part in full."""
    name, chapter, verse, part = place
    return f"{name} {chapter}:{verse}{letter_of(part)}"


def shortest(places, said=None, mark=","):
    """The best of all writings in order that are read as just these places."""
    check_places(places)
    edition = places.edition()
    check_said(edition, said)
    check_mark(mark)
    ground = {key: NOTHING for key in keys_behind(said, mark)}
    for first, last in places.runs():
        ground = ground_behind(edition, ground, first, last)
    # Each writing can go on with a `,` and a name: the best beginning for that is the best writing and a mark.
    _, _, text = ground[()]
    return text[:-1]


def is_shortest(places, thing):
    """Whether thing is the shortest writing of the places, with nothing said."""
    check_places(places)
    return isinstance(thing, str) and thing == shortest(places)


def short_of(edition, text, said=None, mark=","):
    """The shortest writing of what a text is read as, both behind the same said and mark."""
    return shortest(read(edition, text, said, mark).places(), said, mark)


def measure(edition, text):
    """How many signs and how many items a text has, and whether it is in order."""
    reading = read(edition, text)
    return len(text), len(reading), reading.in_order()


def ground_behind(edition, ahead, first, last):
    """The best beginnings that tell a run and end with a mark, from those ahead of it, both by their keys."""
    grounds = {number: {} for number in range(first, last + 1)}
    grounds[first - 1] = ahead
    # Beginnings with an item that is open, by the last part of its first spot.
    half_told = {number: [] for number in range(first, last + 1)}
    opened = {}
    for number in range(first, last + 1):
        for spot in edition.begins(number):
            end = edition.stretch(spot)[1]
            told = best_with(grounds[number - 1], edition, spot)
            if end <= last and told is not None:
                close_item(grounds[end], spot, told)
                half_told[end].append((spot, told))
        for spot in edition.ends(number):
            told = best_with(opened, edition, spot)
            if told is not None:
                close_item(grounds[number], spot, told)
        # Only now: an item's second spot must end behind its first one.
        for spot, told in half_told[number]:
            keep_best(opened, spot, told, "-")
    return grounds[last]


def best_with(ground, edition, spot):
    """The best beginning that tells the spot behind one of a ground; None where none can."""
    told = [longer(ground[key], piece) for piece, key in pieces_for(edition, spot) if key in ground]
    return min(told, default=None)


def close_item(ground, spot, told):
    """Keep in a ground a beginning whose last item is whole, behind both marks."""
    signs, items, text = told
    for mark in (",", ";"):
        keep_best(ground, spot, (signs, items + 1, text), mark)


def keep_best(ground, spot, told, mark):
    """Keep in a ground a beginning that said this spot last, behind a mark, where it is the best."""
    marked = longer(told, mark)
    for key in keys_behind(spot, mark):
        if key not in ground or marked < ground[key]:
            ground[key] = marked


def longer(told, more):
    """A beginning with more signs behind it."""
    signs, items, text = told
    return signs + len(more), items, text + more


def keys_behind(said, mark):
    """The keys of all pieces that can be read behind what was said and a mark."""
    if said is None:
        return [()]
    name = said[0]
    meant = A_CHAPTER if mark == ";" or len(said) < 3 else said[1]
    return [(), (name,), (name, meant)]


def pieces_for(edition, spot):
    """The pieces that tell a spot, each with its key; of those with the same key the shortest one alone."""
    name = spot[0]
    if len(spot) == 1:
        return [(name, ())]
    chapter = spot[1]
    # In a book of one chapter each number alone means a verse, so no piece tells the chapter.
    lone = edition.chapters(name) == 1
    if len(spot) == 2:
        return [] if lone else [(f"{name} {chapter}", ()), (f"{chapter}", (name, A_CHAPTER))]
    verse = verse_text(spot)
    if lone:
        return [(f"{name} {verse}", ()), (verse, (name,))]
    return [(f"{name} {chapter}:{verse}", ()), (f"{chapter}:{verse}", (name,)), (verse, (name, chapter))]


def verse_text(spot):
    """The number of a verse, with the letter of its part where the spot is a part."""
    return f"{spot[2]}" if len(spot) == 3 else f"{spot[2]}{letter_of(spot[3])}"
