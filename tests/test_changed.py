"""Point 72: each change of an edition alone."""

import random
import unittest

from bookplaces.changed import divided, lessened, merged, renamed, reordered
from bookplaces.editions import Edition
from bookplaces.errors import NoBook, NoChapter, NoEdition, NoNames, NoNumber, NoPlaces, NoSpot, NoVerse, TooMany
from bookplaces.leading import Leading
from bookplaces.places import Places, all_of, numbered, spot_places
from tests.changes import made, nested, without
from tests.checks import FULL, LONG, MIXED, NO_NUMBERS, SIX, SMALL, refused, refused_equal, sets_of

EDITION = Edition(MIXED, [(100, 20), (0, 7)])
NO_EDITIONS = (None, True, 0, "", "gen", (), [], {}, MIXED, all_of(EDITION), Leading(EDITION, EDITION))
SAME_NAMES = {"gen": "gen", "ex": "ex", "lev": "lev", "num": "num"}
# Thirty verses, the first of four parts, and a chapter of three verses of one, three and two parts.
THIRTY = Edition([("a", [[4] + [1] * 29, [1, 3, 2]])], [(50, 39)])


def chapter(*verses):
    """An edition of one chapter, by the lines of its verses."""
    return made([("a", [[list(lines) for lines in verses]])])


class Renamed(unittest.TestCase):
    def test_the_same_names(self):
        for edition in (EDITION, Edition(SIX), Edition(SMALL)):
            told = renamed(edition, {name: name for name in edition.names()})
            self.assertIs(type(told), Edition)
            self.assertEqual(told.told(), edition.told())

    def test_turned_round_among_the_books(self):
        told = renamed(EDITION, {"gen": "lev", "lev": "gen", "ex": "num", "num": "ex"})
        books = tuple([(name, chapters) for name, (_, chapters) in zip(("lev", "num", "gen", "ex"), MIXED)])
        self.assertEqual(told.told(), (books, EDITION.told()[1]))

    def test_new_names_and_some_new(self):
        for names in (("a", "b", "c", "d"), ("gen", "ex", "zzzzzz", "num"), ("ex", "gen", "x", "lev")):
            told = renamed(EDITION, dict(zip(EDITION.names(), names)))
            self.assertEqual(told.names(), list(names))
            self.assertEqual([chapters for _, chapters in told.told()[0]], [chapters for _, chapters in MIXED])
            self.assertEqual(told.lines(), EDITION.lines())

    def test_any_order_of_the_keys(self):
        names = {"num": "a", "gen": "b", "lev": "c", "ex": "d"}
        self.assertEqual(renamed(EDITION, names).names(), ["b", "d", "c", "a"])
        self.assertEqual(renamed(EDITION, dict(reversed(list(names.items())))).names(), ["b", "d", "c", "a"])

    def test_no_names(self):
        less = {name: name for name in ("gen", "ex", "lev")}
        for names in (
            {}, less, SAME_NAMES | {"a": "b"}, less | {"NUM": "num"}, less | {1: "num"}, less | {True: "num"},
            SAME_NAMES | {None: "b"}, less | {("num",): "num"}, SAME_NAMES | {"ex": "gen"}, SAME_NAMES | {"num": "Num"},
            SAME_NAMES | {"num": ""}, SAME_NAMES | {"num": "abcdefg"}, SAME_NAMES | {"num": "a b"},
            SAME_NAMES | {"num": None},
            SAME_NAMES | {"num": 1}, SAME_NAMES | {"num": ["num"]}, SAME_NAMES | {"num": {}},
            SAME_NAMES | {"num": ("num",)},
            SAME_NAMES | {"num": EDITION}, SAME_NAMES | {"num": all_of(EDITION)}, SAME_NAMES | {"num": "ex", "a": "c"},
            None, True, 0, 4, "", "gen", [], (), EDITION.names(), list(SAME_NAMES.items()), EDITION, all_of(EDITION),
            {number: "num" for number in range(500)},
        ):
            refused(self, NoNames, {"found": names}, renamed, EDITION, names)

    def test_no_edition(self):
        for thing in NO_EDITIONS:
            refused(self, NoEdition, {"found": thing}, renamed, thing, {})

    def test_what_is_handed_in_stays(self):
        names = {"a": "c", "b": "a"}
        edition = Edition([("a", [[1]]), ("b", [[2]])])
        told = renamed(edition, names)
        self.assertEqual(names, {"a": "c", "b": "a"})
        names["a"] = "z"
        self.assertEqual((told.names(), edition.names()), (["c", "a"], ["a", "b"]))


class Reordered(unittest.TestCase):
    def test_books_with_their_lines(self):
        for order in (["gen", "ex", "lev", "num"], ["num", "lev", "ex", "gen"], ["lev", "gen", "num", "ex"]):
            for names in (order, tuple(order)):
                told = reordered(EDITION, names)
                self.assertIs(type(told), Edition)
                books = dict(nested(EDITION))
                self.assertEqual(nested(told), [(name, books[name]) for name in order])
        self.assertTrue(reordered(EDITION, ["gen", "ex", "lev", "num"]).same(EDITION))

    def test_six_books_and_one(self):
        told = reordered(Edition(SIX), [letter * 6 for letter in "uvwxyz"])
        self.assertEqual(told.lines(), [11, 12, 10, 6, 7, 8, 9, 3, 4, 5, 1, 2, 0])
        self.assertTrue(reordered(Edition(SMALL), ("a",)).same(Edition(SMALL)))

    def test_no_names(self):
        for names in (
            [], (), ["gen", "ex", "lev"], ["gen", "ex", "lev", "num", "gen"], ["gen", "ex", "lev", "lev"],
            ["gen", "ex", "lev", "a"], ["gen", "ex", "lev", None], ["gen", "ex", "lev", True],
            ["gen", "ex", "lev", ["num"]],
            ["gen", "ex", "lev", {}], ["gen", "ex", "lev", EDITION], ["gen", "ex", "lev", all_of(EDITION)],
            ["gen", "ex", "lev", "NUM"], ("gen", "ex", "lev", ("num",)), None, True, 0, 4, "gen", "", SAME_NAMES, {},
            EDITION,
            ["gen"] * 500, ["gen", "ex", "lev", "num"] * 2, "abcd",
        ):
            refused(self, NoNames, {"found": names}, reordered, EDITION, names)
        letters = Edition([(name, [[1]]) for name in "abcd"])
        refused(self, NoNames, {"found": "abcd"}, reordered, letters, "abcd")

    def test_no_edition(self):
        for thing in NO_EDITIONS:
            refused(self, NoEdition, {"found": thing}, reordered, thing, None)

    def test_what_is_handed_in_stays(self):
        names = ["num", "lev", "ex", "gen"]
        told = reordered(EDITION, names)
        self.assertEqual(names, ["num", "lev", "ex", "gen"])
        names.reverse()
        self.assertEqual(told.names(), ["num", "lev", "ex", "gen"])
        self.assertEqual(EDITION.told(), (MIXED, ((100, 20), (0, 7))))


class Divided(unittest.TestCase):
    def test_at_each_place_and_merged_again(self):
        edition = chapter([7], [1, 2, 3, 4], [9, 8])
        for many, verses in (
            (1, ([7], [1], [2, 3, 4], [9, 8])), (2, ([7], [1, 2], [3, 4], [9, 8])), (3, ([7], [1, 2, 3], [4], [9, 8])),
        ):
            for told in (divided(edition, ("a", 1, 2), many), divided(edition, ("a", 1, 2), many=many)):
                self.assertIs(type(told), Edition)
                self.assertEqual(nested(told), nested(chapter(*verses)))
                self.assertTrue(merged(told, ("a", 1, 2)).same(edition))
        self.assertEqual(nested(divided(edition, ("a", 1, 3))), nested(chapter([7], [1, 2, 3, 4], [9], [8])))
        self.assertTrue(divided(edition, ("a", 1, 2)).same(divided(edition, ("a", 1, 2), 1)))

    def test_each_verse_of_an_edition(self):
        for spot in spots_of(EDITION):
            for many in range(1, EDITION.parts(*spot)):
                told = divided(EDITION, spot, many)
                books = nested(EDITION)
                verses = dict(books)[spot[0]][spot[1] - 1]
                lines = verses[spot[2] - 1]
                verses[spot[2] - 1:spot[2]] = [lines[:many], lines[many:]]
                self.assertEqual(nested(told), books)
                self.assertTrue(merged(told, spot).same(EDITION))

    def test_to_thirty_verses(self):
        edition = Edition([("a", [[1] * 28 + [4]])])
        told = divided(edition, ("a", 1, 29), 2)
        self.assertEqual(told.verses("a", 1), 30)
        refused_equal(self, TooMany, 31, divided, told, ("a", 1, 30))

    def test_no_spot(self):
        for deed in (divided, merged):
            for spot in NO_NUMBERS + (0, "gen", ("gen",), ("gen", 1), ("gen", 1, 1, 1), ["gen", 1, 1],
                                      ("a", 1, 1, 1, 1)):
                refused(self, NoSpot, {"found": spot}, deed, EDITION, spot)
            for name in (None, True, 1, "", "a", "Gen", [], {}, ("gen",), EDITION):
                refused(self, NoBook, {"found": name}, deed, EDITION, (name, 9, 9))
            for number in NO_NUMBERS + (0, -1, 3, 10 ** 29):
                refused(self, NoChapter, {"found": number}, deed, EDITION, ("gen", number, 9))
            for number in NO_NUMBERS + (0, -1, 4, 10 ** 29):
                refused(self, NoVerse, {"found": number}, deed, EDITION, ("gen", 1, number))
            for thing in NO_EDITIONS:
                refused(self, NoEdition, {"found": thing}, deed, thing, None)

    def test_no_number(self):
        for many in NO_NUMBERS + (0, -1, 4, 5, 10 ** 29, -10 ** 29):
            refused(self, NoNumber, {"found": many}, divided, EDITION, ("gen", 1, 3), many)
        refused_equal(self, NoNumber, 1, divided, EDITION, ("ex", 1, 1))
        refused_equal(self, NoNumber, 2, divided, EDITION, ("gen", 1, 1), 2)

    def test_too_many_and_what_is_due_ahead(self):
        for many in (1, 2, 3):
            refused_equal(self, TooMany, 31, divided, THIRTY, ("a", 1, 1), many)
        refused_equal(self, TooMany, 31, divided, THIRTY, ("a", 1, 1))
        refused_equal(self, NoNumber, 4, divided, THIRTY, ("a", 1, 1), 4)
        refused_equal(self, NoNumber, 1, divided, THIRTY, ("a", 1, 2))
        refused(self, NoSpot, {"found": None}, divided, THIRTY, None, None)
        refused_equal(self, NoVerse, 31, divided, THIRTY, ("a", 1, 31), 9)
        self.assertEqual(nested(divided(THIRTY, ("a", 2, 2), 1))[0][1][1], [[83], [84], [85, 86], [87, 88]])

    def test_the_old_one_stays(self):
        before = EDITION.told()
        divided(EDITION, ("gen", 1, 3), 2)
        merged(EDITION, ("gen", 1, 1))
        self.assertEqual(EDITION.told(), before)


class Merged(unittest.TestCase):
    def test_side_by_side(self):
        edition = chapter([7], [1, 2, 3], [9, 8], [5])
        for verse, verses in ((1, ([7, 1, 2, 3], [9, 8], [5])), (3, ([7], [1, 2, 3], [9, 8, 5]))):
            told = merged(edition, ("a", 1, verse))
            self.assertIs(type(told), Edition)
            self.assertEqual(nested(told), nested(chapter(*verses)))
            self.assertTrue(divided(told, ("a", 1, verse), edition.parts("a", 1, verse)).same(edition))

    def test_each_verse_of_an_edition(self):
        for edition in (EDITION, Edition(SIX), THIRTY):
            for spot in spots_of(edition):
                name, number, verse = spot
                parts = edition.parts(*spot)
                if verse == edition.verses(name, number):
                    refused_equal(self, NoVerse, verse + 1, merged, edition, spot)
                    continue
                both = parts + edition.parts(name, number, verse + 1)
                if both > 4:
                    refused_equal(self, TooMany, both, merged, edition, spot)
                    continue
                told = merged(edition, spot)
                books = nested(edition)
                verses = dict(books)[name][number - 1]
                verses[verse - 1:verse + 1] = [verses[verse - 1] + verses[verse]]
                self.assertEqual(nested(told), books)
                self.assertTrue(divided(told, spot, parts).same(edition))

    def test_too_many(self):
        for verses, both in (([1, 4], 5), ([4, 4], 8), ([3, 2], 5), ([3, 3], 6)):
            refused_equal(self, TooMany, both, merged, Edition([("a", [verses])]), ("a", 1, 1))
        self.assertEqual(merged(Edition([("a", [[2, 2]])]), ("a", 1, 1)).parts("a", 1, 1), 4)

    def test_the_last_verse_of_a_chapter(self):
        # Also where the next chapter's first verse would go with it.
        refused_equal(self, NoVerse, 3, merged, EDITION, ("gen", 2, 2))
        refused_equal(self, NoVerse, 2, merged, Edition([("a", [[1], [1]])]), ("a", 1, 1))
        refused_equal(self, NoVerse, 31, merged, THIRTY, ("a", 1, 30))
        refused_equal(self, NoVerse, 2, merged, Edition([("a", [[4]])]), ("a", 1, 1))


class Lessened(unittest.TestCase):
    def test_a_part(self):
        edition = chapter([7], [1, 2, 3], [9, 8])
        for number, verses in (
            (0, ([1, 2, 3], [9, 8])), (1, ([7], [2, 3], [9, 8])), (2, ([7], [1, 3], [9, 8])),
            (5, ([7], [1, 2, 3], [9])),
        ):
            told = lessened(edition, numbered(edition, [number]))
            self.assertIs(type(told), Edition)
            self.assertEqual(nested(told), nested(chapter(*verses)))

    def test_a_verse_a_chapter_a_book(self):
        for spot, books in (
            (("gen", 1, 2), (("gen", ((2, 4), (1, 3))), *MIXED[1:])), (("gen", 1), (("gen", ((1, 3),)), *MIXED[1:])),
            (("ex",), (MIXED[0], *MIXED[2:])), (("ex", 1, 1, 1), (MIXED[0], *MIXED[2:])), (("gen",), MIXED[1:]),
            (("lev", 2), (*MIXED[:2], ("lev", ((3, 2), (4,))), MIXED[3])), (("num",), MIXED[:3]),
        ):
            told = lessened(EDITION, spot_places(EDITION, spot))
            first, last = EDITION.stretch(spot)
            self.assertEqual(told.told()[0], books)
            self.assertEqual(told.lines(), EDITION.lines()[:first] + EDITION.lines()[last + 1:])

    def test_none(self):
        for edition in (EDITION, Edition(FULL), Edition(SMALL)):
            self.assertTrue(lessened(edition, Places(edition)).same(edition))

    def test_all_but_one(self):
        for number in range(EDITION.size()):
            told = lessened(EDITION, numbered(EDITION, [number]).rest())
            self.assertEqual(told.told(), (((EDITION.place(number)[0], ((1,),)),), ((EDITION.line_at(number), 1),)))

    def test_all_sets_of_a_small_one(self):
        edition = Edition([("a", [[2, 1], [1]]), ("b", [[1, 2]])], [(3, 4), (0, 3)])
        for held in sets_of(edition.size())[:-1]:
            self.assertEqual(nested(lessened(edition, numbered(edition, held))), without(nested(edition), held))

    def test_places_of_a_same_edition_made_anew(self):
        anew = Edition(MIXED, [(100, 10), (110, 10), (0, 7)])
        self.assertEqual(lessened(EDITION, Places(anew, [(0, 8)])).names(), ["gen", "ex", "lev", "num"])
        self.assertEqual(lessened(EDITION, Places(anew, [(0, 10)])).names(), ["ex", "lev", "num"])

    def test_long_ones(self):
        chance = random.Random(72)
        for books in (FULL, LONG):
            edition = Edition(books)
            for _ in range(5):
                held = [n for n in range(edition.size()) if chance.random() < 0.5]
                self.assertEqual(nested(lessened(edition, numbered(edition, held))), without(nested(edition), held))

    def test_no_places(self):
        other = Edition(MIXED)
        for thing in NO_NUMBERS + ([(0, 0)], "0", EDITION, all_of(other), Places(other), Places(other, [(0, 3)]), [0]):
            refused(self, NoPlaces, {"found": thing}, lessened, EDITION, thing)
        for edition in (EDITION, Edition(SMALL), other):
            places = all_of(edition)
            refused(self, NoPlaces, {"found": places}, lessened, edition, places)
        for thing in NO_EDITIONS:
            refused(self, NoEdition, {"found": thing}, lessened, thing, None)

    def test_the_old_one_stays(self):
        before = EDITION.told()
        places = Places(EDITION, [(0, 3)])
        lessened(EDITION, places)
        self.assertEqual((EDITION.told(), places.runs()), (before, [(0, 3)]))


def spots_of(edition):
    """The spots of all verses, in order."""
    return list(dict.fromkeys(edition.verse_of(number) for number in range(edition.size())))


if __name__ == "__main__":
    unittest.main()
