"""The interface: names, arguments, and the files and classes in which they are defined."""

import inspect
import unittest

from bookplaces import carrying, changed, desk, editions, errors, leading, lists, places, portions, reading
from bookplaces import texts, torn, words, writing

FUNCTIONS = {
    words: {
        "is_whole": "(thing, low, high)",
        "is_name": "(thing)",
        "number_in": "(thing, low, high)",
        "letter_of": "(part)",
        "part_in": "(thing)",
    },
    places: {
        "combined": "(deed, one, other)", "all_of": "(edition)", "spot_places": "(edition, spot)",
        "numbered": "(edition, numbers)", "united": "(edition, some)",
    },
    reading: {
        "read": "(edition, text, said=None, mark=',')", "reader": "(edition, said=None, mark=',')",
    },
    writing: {
        "full": "(places)", "shortest": "(places, said=None, mark=',')", "is_shortest": "(places, thing)",
        "short_of": "(edition, text, said=None, mark=',')", "measure": "(edition, text)",
    },
    leading: {
        "shows_rows": "(one, other, thing)", "through": "(first, second, places)", "rows_through": "(first, second)",
    },
    carrying: {"carried": "(leading, text, said=None, mark=',')", "misread": "(leading, text)"},
    changed: {
        "renamed": "(edition, names)", "reordered": "(edition, names)", "divided": "(edition, spot, many=1)",
        "merged": "(edition, spot)", "lessened": "(edition, places)", "changed": "(edition, deeds)",
    },
    portions: {
        "greatest": "(places, many)", "portions": "(places, many)", "portion_of": "(places, many, number)",
        "is_parting": "(places, thing)",
    },
    texts: {
        "edition_text": "(edition)", "edition_of": "(text)", "lists_text": "(lists)", "lists_of": "(edition, text)",
    },
}
CLASSES = {
    editions: {"Edition": "(books, lines=None)"},
    places: {"Places": "(edition, pairs=None)"},
    leading: {"Leading": "(one, other)"},
    torn: {"Torn": "(edition, text)"},
    lists: {"Lists": "(edition)"},
    desk: {"Desk": "()"},
    errors: {
        "PlaceError": "(text)", "LostError": "(text)", "NoText": "(line)", "NoWriting": "(at, why)", "Unready": "()",
        "NoNumber": "(found)", "NoName": "(found)", "Doubled": "(found)", "NoEdition": "(found)", "TooMany": "(found)",
        "NoLines": "(found)", "NoPlaces": "(found)", "NoMark": "(found)", "NoDeed": "(found)", "NoSaid": "(found)",
        "NoNames": "(found)", "NoLeading": "(found)", "NoTorn": "(found)", "NoLine": "(found)", "NoSpot": "(found)",
        "NoBook": "(found)", "NoChapter": "(found)", "NoVerse": "(found)", "NoPart": "(found)", "NoList": "(found)",
    },
}
METHODS = {
    editions.Edition: {
        "names": "(self)", "size": "(self)", "lines": "(self)",
        "chapters": "(self, name)", "verses": "(self, name, chapter)", "parts": "(self, name, chapter, verse)",
        "line_at": "(self, number)", "part_of": "(self, thing)", "told": "(self)", "same": "(self, thing)",
        "stretch": "(self, spot)", "number": "(self, spot)", "place": "(self, number)", "verse_of": "(self, number)",
        "begins": "(self, number)", "ends": "(self, number)",
    },
    places.Places: {
        "edition": "(self)", "runs": "(self)", "numbers": "(self)", "has": "(self, number)", "spots": "(self)",
        "whole": "(self, spot)", "kth": "(self, k)", "rank": "(self, number)", "joined": "(self, other)",
        "met": "(self, other)", "without": "(self, other)", "apart": "(self, other)", "rest": "(self)",
        "within": "(self, other)", "__len__": "(self)", "__eq__": "(self, other)", "__str__": "(self)", "__repr__": "(self)",
    },
    reading.Reading: {
        "places": "(self)", "stretches": "(self)", "spots": "(self)", "said": "(self)", "in_order": "(self)",
        "__len__": "(self)", "__str__": "(self)",
    },
    leading.Leading: {
        "editions": "(self)", "goes_to": "(self, number)", "comes_from": "(self, number)", "rows": "(self)",
        "over": "(self, places)", "back": "(self, places)", "lacking": "(self)", "lacking_back": "(self)",
        "verse": "(self, name, chapter, verse)", "verses": "(self)", "turned": "(self)",
        "__len__": "(self)", "__eq__": "(self, thing)", "__str__": "(self)",
    },
    torn.Torn: {
        "could": "(self)", "signs": "(self, at)", "sets": "(self)", "many_sets": "(self)", "ways": "(self, places)",
        "sure": "(self)", "perhaps": "(self)", "fits": "(self, thing)", "mended": "(self, at, sign)",
        "__len__": "(self)", "__str__": "(self)",
    },
    lists.Lists: {
        "put": "(self, name, places)", "add": "(self, name, places)", "strike": "(self, name, places)",
        "drop": "(self, name)", "rename": "(self, name, other)", "swap": "(self, name, other)",
        "back": "(self)", "forth": "(self)", "names": "(self)", "places_of": "(self, name)",
        "holders": "(self, thing)", "told": "(self)", "edition": "(self)", "twin": "(self)",
        "over": "(self, leading)", "asker": "(self, name)", "__len__": "(self)",
    },
    desk.Desk: {"say": "(self, line)"},
}


class Interface(unittest.TestCase):
    def test_functions_and_classes(self):
        for table, is_kind in ((FUNCTIONS, inspect.isfunction), (CLASSES, inspect.isclass)):
            for module, names in table.items():
                for name, arguments in names.items():
                    thing = getattr(module, name)
                    self.assertTrue(is_kind(thing), name)
                    self.assertEqual(thing.__module__, module.__name__)
                    self.assertEqual(str(inspect.signature(thing)), arguments, name)

    def test_methods_in_the_class_itself(self):
        for kind, names in METHODS.items():
            for name, arguments in names.items():
                self.assertIn(name, vars(kind))
                self.assertEqual(str(inspect.signature(vars(kind)[name])), arguments, name)


if __name__ == "__main__":
    unittest.main()
