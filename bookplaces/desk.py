"""A desk, which is told lines and answers them."""

from bookplaces.answers import ANSWERS
from bookplaces.errors import NoLine
from bookplaces.shelf import Shelf
from bookplaces.words import is_name, number_in

HIGHEST_NUMBER = 10 ** 30 - 1

# What stands behind each first word.
FORMS = {
    "edition": "NAME TEXT", "use": "NAME", "editions": "", "show": "",
    "place": "NUMBER", "verse": "OTHER BOOK CHAPTER VERSE",
    "merge": "BOOK CHAPTER VERSE", "divide": "BOOK CHAPTER VERSE MANY", "lessen": "TEXT",
    "read": "TEXT", "short": "TEXT", "full": "TEXT", "verses": "TEXT", "torn": "TEXT",
    "lead": "OTHER TEXT", "misread": "OTHER TEXT", "rows": "OTHER",
    "put": "NAME TEXT", "add": "NAME TEXT", "strike": "NAME TEXT",
    "drop": "NAME", "rename": "NAME NAME", "swap": "NAME NAME", "back": "", "forth": "",
    "lists": "", "tell": "NAME", "holders": "NUMBER",
    "join": "NAME NAME", "meet": "NAME NAME", "leave": "NAME NAME", "apart": "NAME NAME",
    "portions": "MANY NAME", "over": "OTHER", "text": "", "load": "TEXT",
}
WITHOUT_USE = ("edition", "use", "editions")


class Desk:
    """Keeps editions by names and their lists, and answers lines."""

    def __init__(self):
        self._shelf = Shelf()

    def say(self, line):
        """The answer to a line."""
        word, kinds, things = parsed(line)
        if word not in WITHOUT_USE:
            self._shelf.check_use()
        for kind, thing in zip(kinds, things):
            if kind == "OTHER":
                self._shelf.check_name(thing)
        answer = ANSWERS[word]
        return rows_text(answer(self._shelf, *things))


def parsed(line):
    """A line's first word, the kinds of what stands behind it, and what stands there."""
    words = line.split(" ") if isinstance(line, str) else [""]
    if "" in words or words[0] not in FORMS:
        raise NoLine(line)
    word, *tail = words
    kinds = FORMS[word].split()
    if "TEXT" in kinds:
        # A text is all that is left, perhaps nothing; it always stands last.
        ahead = len(kinds) - 1
        tail = [*tail[:ahead], " ".join(tail[ahead:])]
    things = [thing_told(kind, told) for kind, told in zip(kinds, tail)]
    if len(tail) != len(kinds) or None in things:
        raise NoLine(line)
    return word, kinds, things


def thing_told(kind, word):
    """What a word tells as a thing of this kind; None where it tells none."""
    if kind in ("NAME", "OTHER"):
        return word if is_name(word) else None
    if kind == "NUMBER":
        return number_in(word, 0, HIGHEST_NUMBER)
    if kind in ("CHAPTER", "VERSE", "MANY"):
        return number_in(word, 1, HIGHEST_NUMBER)
    return word


def rows_text(rows):
    """An answer's rows as a text."""
    return " / ".join([row or "none" for row in rows]) or "none"
