"""Editions and lists of places, written as texts and read of texts."""

from bookplaces.editions import LAST_LINE, MOST_BOOK_CHAPTERS, MOST_BOOKS, MOST_PAIRS, MOST_PARTS, MOST_VERSES
from bookplaces.editions import Edition, check_edition
from bookplaces.errors import NoNames, NoText
from bookplaces.lists import MOST_LISTS, Lists
from bookplaces.places import stretch_text
from bookplaces.reading import read
from bookplaces.words import is_made_of, is_name, number_in
from bookplaces.writing import shortest

PARTS_FIGURES = "1234"


def edition_text(edition):
    """An edition as a text: a line for each chapter, and one for its lines where they need it."""
    check_edition(edition)
    books, pairs = edition.told()
    rows = [chapter_text(name, number, verses)
            for name, chapters in books for number, verses in enumerate(chapters, start=1)]
    if edition.lines() != list(range(edition.size())):
        rows.append(pairs_text(pairs))
    return "\n".join(rows)


def edition_of(text):
    """The edition that is read of a text."""
    check_text(text)
    if text == "":
        raise NoText(0)
    books = {}
    pairs = None
    for number, line in enumerate(lines_in(text)):
        if pairs is not None:
            raise NoText(number)
        if number > 0 and line.startswith("="):
            pairs = pairs_in(line)
            if pairs is None:
                raise NoText(number)
        elif not put_chapter(books, line):
            raise NoText(number)
    return Edition(list(books.items()), pairs)


def lists_text(lists):
    """Lists as a text: a line for each of them."""
    if not isinstance(lists, Lists):
        raise NoNames(lists)
    return "\n".join([list_text(name, lists.places_of(name)) for name in lists.names()])


def lists_of(edition, text):
    """The lists of an edition that are read of a text."""
    check_edition(edition)
    check_text(text)
    lists = Lists(edition)
    for number, line in enumerate(lines_in(text)):
        name, blank, writing = line.partition(" ")
        # A blank stands ahead of a writing of one sign or more.
        if not is_name(name) or (blank != "" and writing == ""):
            raise NoText(number)
        if name in lists.names() or len(lists) == MOST_LISTS:
            raise NoText(number)
        lists.put(name, read(edition, writing).places())
    return lists


def check_text(thing):
    """Refuse what is no text."""
    if not isinstance(thing, str):
        raise NoText(0)


def lines_in(text):
    """The lines of a text; none where it has no signs."""
    lines = text.split("\n")
    # A line feed at the end stands behind the last line, and no line is behind it.
    return lines[:-1] if lines[-1] == "" else lines


def chapter_text(name, number, verses):
    """The line of a chapter: how many parts each of its verses has."""
    figures = "".join([str(parts) for parts in verses])
    return f"{name} {two_figures(number)} {figures}"


def pairs_text(pairs):
    """The line of the lines of an edition."""
    return " ".join(["=", *[stretch_text(first, first + many - 1) for first, many in pairs]])


def list_text(name, places):
    """The line of a list."""
    return f"{name} {shortest(places)}" if len(places) > 0 else name


def put_chapter(books, line):
    """Put the chapter of a line to the books, lists of chapters by names; tells whether it can stand behind them."""
    words = line.split(" ")
    if len(words) != 3:
        return False
    name, word, figures = words
    if not (is_name(name) and can_stand(books, name, word) and is_made_of(figures, PARTS_FIGURES, MOST_VERSES)):
        return False
    books.setdefault(name, []).append([int(figure) for figure in figures])
    return True


def can_stand(books, name, word):
    """Whether the chapter of this name whose number a word writes can stand behind these books."""
    number = len(books.get(name, [])) + 1
    if word != two_figures(number):
        return False
    if number == 1:
        return len(books) < MOST_BOOKS
    return name == list(books)[-1] and number <= MOST_BOOK_CHAPTERS


def two_figures(number):
    """A chapter's number in two figures."""
    return f"{number:02d}"


def pairs_in(line):
    """The pairs (first, many) that a line of lines writes, or None."""
    mark, *words = line.split(" ")
    if mark != "=" or not 1 <= len(words) <= MOST_PAIRS:
        return None
    pairs = [pair_in(word) for word in words]
    return None if None in pairs else pairs


def pair_in(word):
    """The pair that a word of a line of lines writes, or None."""
    low, dash, high = word.partition("-")
    first = number_in(low, 0, LAST_LINE)
    if first is None:
        return None
    if dash == "":
        return first, 1
    last = number_in(high, first + 1, min(first + MOST_PARTS - 1, LAST_LINE))
    return None if last is None else (first, last - first + 1)
