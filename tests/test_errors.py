"""Points 7 and 13: the classes of refusals."""

import unittest

from bookplaces import errors
from bookplaces.editions import Edition
from bookplaces.errors import LostError, NoList, NoText, NoWriting, PlaceError, Unready

UNDER_PLACE = (
    "NoNumber", "NoName", "Doubled", "NoEdition", "TooMany", "NoLines", "NoPlaces", "NoMark",
    "NoDeed", "NoSaid", "NoNames", "NoLeading", "NoTorn", "NoLine", "NoText", "NoWriting", "Unready",
)
UNDER_LOST = ("NoSpot", "NoBook", "NoChapter", "NoVerse", "NoPart")
OF_FOUND = [name for name in UNDER_PLACE + UNDER_LOST if name not in ("NoText", "NoWriting", "Unready")] + ["NoList"]


def things():
    deep = 1
    for _ in range(8):
        deep = [deep, {"a": deep}]
    return [0, -1, 10 ** 30 - 1, "", "gen", "a\n b", True, False, None, (), [], {}, [1, [2]], ("gen", 1),
            deep, Edition([("a", [[1]])]), Unready(), Unready]


def classes():
    return {name: thing for name, thing in vars(errors).items() if isinstance(thing, type)}


class Families(unittest.TestCase):
    def test_three_families_and_nothing_else(self):
        named = set(UNDER_PLACE + UNDER_LOST + ("PlaceError", "LostError", "NoList"))
        self.assertEqual(set(classes()), named)

    def test_heads_of_the_families(self):
        self.assertEqual(PlaceError.__bases__, (ValueError,))
        self.assertEqual(LostError.__bases__, (LookupError,))
        self.assertEqual(NoList.__bases__, (KeyError,))

    def test_each_stands_straight_under_its_family_alone(self):
        for names, family in ((UNDER_PLACE, PlaceError), (UNDER_LOST, LostError)):
            for name in names:
                self.assertEqual(classes()[name].__bases__, (family,), name)

    def test_no_list_is_no_lost_error(self):
        self.assertFalse(issubclass(NoList, (LostError, PlaceError)))

    def test_each_is_defined_in_its_file(self):
        for name, kind in classes().items():
            self.assertEqual((kind.__name__, kind.__module__), (name, "bookplaces.errors"))


class Fields(unittest.TestCase):
    def test_found_is_the_very_thing(self):
        for name in OF_FOUND:
            for thing in things():
                error = classes()[name](thing)
                self.assertIs(error.found, thing, name)
                self.assertEqual(list(vars(error)), ["found"], name)

    def test_line_is_the_very_thing(self):
        for thing in things():
            error = NoText(thing)
            self.assertIs(error.line, thing)
            self.assertEqual(list(vars(error)), ["line"])

    def test_at_and_why_are_the_very_things(self):
        for thing in things():
            for other in things():
                error = NoWriting(thing, other)
                self.assertIs(error.at, thing)
                self.assertIs(error.why, other)
                self.assertEqual(sorted(vars(error)), ["at", "why"])

    def test_fields_are_not_copied(self):
        held = [1]
        error = errors.NoEdition(held)
        held.append(2)
        self.assertEqual(error.found, [1, 2])

    def test_unready_has_no_field(self):
        self.assertEqual(vars(Unready()), {})
        with self.assertRaises(TypeError):
            Unready("a")

    def test_each_has_words(self):
        for name in OF_FOUND:
            for thing in things():
                self.assertIsInstance(str(classes()[name](thing)), str)
        self.assertIsInstance(str(NoText([])), str)
        self.assertIsInstance(str(NoWriting(None, {})), str)
        self.assertIsInstance(str(Unready()), str)

    def test_each_can_be_raised_and_caught_by_its_family(self):
        for name in OF_FOUND:
            thing = ["held"]
            kind = classes()[name]
            with self.assertRaises(kind.__bases__[0]) as caught:
                raise kind(thing)
            self.assertIs(caught.exception.found, thing)


class Texts(unittest.TestCase):
    def test_heads_are_made_of_one_text_which_str_tells(self):
        for kind in (PlaceError, LostError):
            for text in ("", "a", "no such place: gen 1", "a\nb"):
                self.assertEqual(str(kind(text)), text)
                self.assertEqual(vars(kind(text)), {})

    def test_heads_are_made_of_nothing_else(self):
        for kind in (PlaceError, LostError):
            with self.assertRaises(TypeError):
                kind()
            with self.assertRaises(TypeError):
                kind("a", "b")


if __name__ == "__main__":
    unittest.main()
