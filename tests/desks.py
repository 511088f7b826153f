"""Desks for the tests, and a good line of each kind."""

import unittest

from bookplaces.desk import Desk
from tests.checks import outcome

ONE = "edition one gen 01 214 / gen 02 13 / ex 01 1"
TWO = "edition two gen 01 4 / gen 02 31 / lev 01 31 / = 3-6 0-2 20 7-10"

# Of each first word what may stand behind it; a text's words may be none or many.
FORMS = {
    "edition": ("NAME", "TEXT"), "use": ("NAME",), "editions": (), "show": (), "place": ("NUMBER",),
    "verse": ("OTHER", "BOOK", "CHAPTER", "VERSE"), "merge": ("BOOK", "CHAPTER", "VERSE"),
    "divide": ("BOOK", "CHAPTER", "VERSE", "MANY"), "lessen": ("TEXT",), "read": ("TEXT",), "short": ("TEXT",),
    "full": ("TEXT",),
    "verses": ("TEXT",), "torn": ("TEXT",), "lead": ("OTHER", "TEXT"), "misread": ("OTHER", "TEXT"), "rows": ("OTHER",),
    "put": ("NAME", "TEXT"), "add": ("NAME", "TEXT"), "strike": ("NAME", "TEXT"), "drop": ("NAME",),
    "rename": ("NAME", "NAME"),
    "swap": ("NAME", "NAME"), "back": (), "forth": (), "lists": (), "tell": ("NAME",), "holders": ("NUMBER",),
    "join": ("NAME", "NAME"), "meet": ("NAME", "NAME"), "leave": ("NAME", "NAME"), "apart": ("NAME", "NAME"),
    "portions": ("MANY", "NAME"), "over": ("OTHER",), "text": (), "load": ("TEXT",),
}
WORDS = {"NAME": "a", "OTHER": "two", "NUMBER": "0", "CHAPTER": "1", "VERSE": "1", "MANY": "1", "BOOK": "gen",
"TEXT": "gen"}


def good_line(word):
    """A line with this first word that is a line."""
    return " ".join([word] + [WORDS[kind] for kind in FORMS[word]])


def desk(*lines):
    """A desk that was told the editions one and two, of which one is in use, and then these lines."""
    made = Desk()
    for line in (TWO, ONE) + lines:
        made.say(line)
    return made


def look(made):
    """All that a desk tells of itself, but for the deeds that go back and forth."""
    names = made.say("editions")
    if names == "none":
        return names
    used = None
    try:
        used = made.say("show")
    except ValueError:
        return names
    found = [names, used, made.say("text")]
    for name in names.split(" / "):
        found.append(made.say(f"rows {name}"))
    return found


def history(made):
    """How many deeds of the lists in use go back and forth; they are where they were behind this."""
    counts = []
    for word, other in (("back", "forth"), ("forth", "back")):
        many = 0
        try:
            while True:
                made.say(word)
                many += 1
        except ValueError:
            pass
        for _ in range(many):
            made.say(other)
        counts.append(many)
    return tuple(counts)


class DeskTests(unittest.TestCase):
    def answers(self, made, *rows):
        for line, answer in rows:
            told = made.say(line)
            self.assertEqual(told, answer, line)
            self.assertIs(type(told), str)

    def refuses(self, made, *rows):
        """Each line is refused so, and nothing is changed by it."""
        before = look(made), history(made)
        for line, kind, *fields in rows:
            told = outcome(made.say, line)
            self.assertEqual((told[0], list(told[1].values())), (kind, fields), line)
            self.assertEqual([type(field) for field in told[1].values()], [type(field) for field in fields])
            self.assertEqual((look(made), history(made)), before, line)
