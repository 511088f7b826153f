"""What a desk answers: a function for each first word of a line, which tells the answer's rows."""

from bookplaces.carrying import carried, misread
from bookplaces.changed import divided, lessened, merged
from bookplaces.places import combined, spot_places
from bookplaces.portions import portions
from bookplaces.reading import read
from bookplaces.texts import edition_of, edition_text, lists_of, lists_text
from bookplaces.torn import Torn
from bookplaces.writing import full, shortest


def answer_edition(shelf, name, text):
    edition = edition_of(with_line_feeds(text))
    shelf.keep(name, edition)
    shelf.use(name)
    return [f"{edition.size()}"]


def answer_use(shelf, name):
    shelf.use(name)
    return ["ok"]


def answer_editions(shelf):
    return shelf.names()


def answer_show(shelf):
    return edition_text(shelf.edition()).split("\n")


def answer_place(shelf, number):
    edition = shelf.edition()
    return spot_rows(edition, [edition.place(number)])


def answer_verse(shelf, other, book, chapter, verse):
    leading = shelf.leading_to(other)
    kind, spots = leading.verse(book, chapter, verse)
    _, edition = leading.editions()
    return [kind, *spot_rows(edition, spots)]


def answer_merge(shelf, book, chapter, verse):
    return become(shelf, merged(shelf.edition(), (book, chapter, verse)))


def answer_divide(shelf, book, chapter, verse, many):
    return become(shelf, divided(shelf.edition(), (book, chapter, verse), many))


def answer_lessen(shelf, text):
    return become(shelf, lessened(shelf.edition(), places_told(shelf, text)))


def answer_read(shelf, text):
    return [str(places_told(shelf, text))]


def answer_short(shelf, text):
    return [shortest(places_told(shelf, text))]


def answer_full(shelf, text):
    return [full(places_told(shelf, text))]


def answer_verses(shelf, text):
    return spot_rows(shelf.edition(), places_told(shelf, text).spots())


def answer_torn(shelf, text):
    return Torn(shelf.edition(), text).could()


def answer_lead(shelf, other, text):
    return list(carried(shelf.leading_to(other), text))


def answer_misread(shelf, other, text):
    told = misread(shelf.leading_to(other), text)
    return ["refused"] if told is None else [shortest(places) for places in told]


def answer_rows(shelf, other):
    return [str(shelf.leading_to(other))]


def answer_put(shelf, name, text):
    places = places_told(shelf, text)
    shelf.lists().put(name, places)
    return count_row(shelf, name)


def answer_add(shelf, name, text):
    places = places_told(shelf, text)
    shelf.lists().add(name, places)
    return count_row(shelf, name)


def answer_strike(shelf, name, text):
    places = places_told(shelf, text)
    shelf.lists().strike(name, places)
    return count_row(shelf, name)


def answer_drop(shelf, name):
    shelf.lists().drop(name)
    return ["ok"]


def answer_rename(shelf, name, other):
    shelf.lists().rename(name, other)
    return ["ok"]


def answer_swap(shelf, name, other):
    shelf.lists().swap(name, other)
    return ["ok"]


def answer_back(shelf):
    shelf.lists().back()
    return ["ok"]


def answer_forth(shelf):
    shelf.lists().forth()
    return ["ok"]


def answer_lists(shelf):
    return shelf.lists().names()


def answer_tell(shelf, name):
    return [shortest(shelf.lists().places_of(name))]


def answer_holders(shelf, number):
    return shelf.lists().holders(number)


def answer_join(shelf, name, other):
    return both_lists(shelf, "join", name, other)


def answer_meet(shelf, name, other):
    return both_lists(shelf, "meet", name, other)


def answer_leave(shelf, name, other):
    return both_lists(shelf, "leave", name, other)


def answer_apart(shelf, name, other):
    return both_lists(shelf, "apart", name, other)


def answer_portions(shelf, many, name):
    return [shortest(portion) for portion in portions(shelf.lists().places_of(name), many)]


def answer_over(shelf, other):
    shelf.lead_lists(other)
    return ["ok"]


def answer_text(shelf):
    return lists_text(shelf.lists()).split("\n")


def answer_load(shelf, text):
    lists = lists_of(shelf.edition(), with_line_feeds(text))
    shelf.replace_lists(lists)
    return [f"{len(lists)}"]


def with_line_feeds(text):
    """The text of a line, in which a blank, a `/` and a blank stand for a line feed."""
    return text.replace(" / ", "\n")


def places_told(shelf, text):
    """The places as which the edition in use reads a text."""
    return read(shelf.edition(), text).places()


def spot_rows(edition, spots):
    """A row for each spot, as places."""
    return [shortest(spot_places(edition, spot)) for spot in spots]


def count_row(shelf, name):
    """How many parts a list has, as a row."""
    return [f"{len(shelf.lists().places_of(name))}"]


def both_lists(shelf, deed, name, other):
    """What comes of the places of two lists by the word of a deed, as a row."""
    lists = shelf.lists()
    return [shortest(combined(deed, lists.places_of(name), lists.places_of(other)))]


def become(shelf, edition):
    """Let the edition in use become another one; how many parts that has, as a row."""
    shelf.change_edition(edition)
    return [f"{edition.size()}"]


ANSWERS = {
    "edition": answer_edition, "use": answer_use, "editions": answer_editions, "show": answer_show,
    "place": answer_place, "verse": answer_verse,
    "merge": answer_merge, "divide": answer_divide, "lessen": answer_lessen,
    "read": answer_read, "short": answer_short, "full": answer_full, "verses": answer_verses, "torn": answer_torn,
    "lead": answer_lead, "misread": answer_misread, "rows": answer_rows,
    "put": answer_put, "add": answer_add, "strike": answer_strike,
    "drop": answer_drop, "rename": answer_rename, "swap": answer_swap, "back": answer_back, "forth": answer_forth,
    "lists": answer_lists, "tell": answer_tell, "holders": answer_holders,
    "join": answer_join, "meet": answer_meet, "leave": answer_leave, "apart": answer_apart,
    "portions": answer_portions, "over": answer_over, "text": answer_text, "load": answer_load,
}
