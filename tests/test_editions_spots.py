"""Points 24 to 27: stretches, numbers and places, what begins and ends."""

import unittest

from bookplaces.editions import Edition
from bookplaces.errors import NoBook, NoChapter, NoNumber, NoPart, NoSpot, NoVerse
from tests.checks import ALL_BOOKS, MIXED, NO_NUMBERS, SMALL, refused, sizes, spots_of_four


def spots(books):
    """For each count of things from one to four the spots of so many, in order."""
    found = {}
    for many in (1, 2, 3, 4):
        found[many] = list(dict.fromkeys([place[:many] for place in spots_of_four(books)]))
    return found


class Stretches(unittest.TestCase):
    def test_of_a_small_edition(self):
        edition = Edition(MIXED)
        for spot, stretch in (
            (("gen",), (0, 10)), (("gen", 1), (0, 6)), (("gen", 2), (7, 10)), (("gen", 1, 1), (0, 1)),
            (("gen", 1, 2), (2, 2)), (("gen", 1, 3), (3, 6)), (("gen", 2, 2), (8, 10)), (("gen", 2, 2, 3), (10, 10)),
            (("ex",), (11, 11)), (("ex", 1), (11, 11)), (("ex", 1, 1), (11, 11)), (("ex", 1, 1, 1), (11, 11)),
            (("lev",), (12, 22)), (("lev", 3), (19, 22)), (("lev", 3, 1, 4), (22, 22)), (("num",), (23, 26)),
        ):
            self.assertEqual(edition.stretch(spot), stretch)
            self.assertEqual([type(number) for number in edition.stretch(spot)], [int, int])
            self.assertIs(type(edition.stretch(spot)), tuple)

    def test_of_all_spots_as_counted(self):
        for books in ALL_BOOKS:
            edition = Edition(books)
            places = spots_of_four(books)
            for many, found in spots(books).items():
                for spot in found:
                    numbers = [number for number, place in enumerate(places) if place[:many] == spot]
                    self.assertEqual(edition.stretch(spot), (numbers[0], numbers[-1]))

    def test_one_behind_the_other_without_a_gap(self):
        for books in ALL_BOOKS:
            edition = Edition(books, [(9999 - number, 1) for number in range(sizes(books))])
            self.follow(edition, [(name,) for name in edition.names()], 0, edition.size() - 1)
            for name in edition.names():
                chapters = [(name, chapter + 1) for chapter in range(edition.chapters(name))]
                self.follow(edition, chapters, *edition.stretch((name,)))
                for spot in chapters:
                    verses = [spot + (verse + 1,) for verse in range(edition.verses(*spot))]
                    self.follow(edition, verses, *edition.stretch(spot))
                    for verse in verses:
                        parts = [verse + (part + 1,) for part in range(edition.parts(*verse))]
                        self.follow(edition, parts, *edition.stretch(verse))

    def follow(self, edition, found, first, last):
        for spot in found:
            begin, end = edition.stretch(spot)
            self.assertEqual(begin, first)
            self.assertLessEqual(begin, end)
            first = end + 1
        self.assertEqual(first, last + 1)


class StretchesRefused(unittest.TestCase):
    def setUp(self):
        self.edition = Edition(MIXED)

    def test_no_spot(self):
        for spot in (None, True, 0, 3, "", "gen", "a", (), [], ["gen"], ["gen", 1], {}, {"gen": 1},
                     ("gen", 1, 1, 1, 1), (None,) * 5, self.edition):
            refused(self, NoSpot, {"found": spot}, self.edition.stretch, spot)

    def test_no_book(self):
        for name in (None, True, 1, "", "GEN", "ge", "gen ", "genx", "xxx", [], ["gen"], ("gen",), {}, self.edition):
            for spot in ((name,), (name, 1), (name, 1, 1), (name, 1, 1, 1), (name, 9, 9, 9), (name, 1, None, None)):
                refused(self, NoBook, {"found": name}, self.edition.stretch, spot)

    def test_no_chapter(self):
        for chapter in NO_NUMBERS + (0, -1, 3, 10 ** 29):
            for spot in (("gen", chapter), ("gen", chapter, 1), ("gen", chapter, 1, 1), ("gen", chapter, None, [])):
                refused(self, NoChapter, {"found": chapter}, self.edition.stretch, spot)

    def test_no_verse(self):
        for verse in NO_NUMBERS + (0, -1, 4, 10 ** 29):
            for spot in (("gen", 1, verse), ("gen", 1, verse, 1), ("gen", 1, verse, 9), ("gen", 1, verse, None)):
                refused(self, NoVerse, {"found": verse}, self.edition.stretch, spot)

    def test_no_part(self):
        for part in NO_NUMBERS + (0, -1, 3, "b", 10 ** 29):
            refused(self, NoPart, {"found": part}, self.edition.stretch, ("gen", 1, 1, part))
            refused(self, NoPart, {"found": part}, self.edition.number, ("gen", 1, 1, part))

    def test_one_past_the_last(self):
        refused(self, NoChapter, {"found": 2}, self.edition.stretch, ("ex", 2))
        refused(self, NoVerse, {"found": 2}, self.edition.stretch, ("lev", 3, 2))
        refused(self, NoPart, {"found": 2}, self.edition.stretch, ("gen", 1, 2, 2))
        refused(self, NoPart, {"found": 5}, self.edition.stretch, ("gen", 1, 3, 5))

    def test_two_bad_at_once(self):
        for kind, found, spot in (
            (NoBook, "x", ("x", 9)), (NoBook, "x", ("x", 1, 9)), (NoBook, "x", ("x", 1, 1, 9)),
            (NoChapter, 9, ("gen", 9, 8)), (NoChapter, 9, ("gen", 9, 1, 8)), (NoVerse, 9, ("gen", 1, 9, 8)),
        ):
            refused(self, kind, {"found": found}, self.edition.stretch, spot)

    def test_counts_are_refused_likewise(self):
        refused(self, NoBook, {"found": "x"}, self.edition.parts, "x", 9, 9)
        refused(self, NoChapter, {"found": 9}, self.edition.parts, "gen", 9, 8)
        refused(self, NoVerse, {"found": 8}, self.edition.parts, "gen", 1, 8)
        refused(self, NoBook, {"found": "x"}, self.edition.verses, "x", 9)


class NumbersAndPlaces(unittest.TestCase):
    def test_back_and_forth_for_all_parts(self):
        for books in ALL_BOOKS:
            edition = Edition(books, [(9000 - 2 * number, 1) for number in range(sizes(books))])
            places = spots_of_four(books)
            self.assertEqual(edition.size(), len(places))
            for number, place in enumerate(places):
                self.assertEqual(edition.place(number), place)
                self.assertEqual(edition.number(place), number)
                self.assertIs(type(edition.number(place)), int)
                self.assertEqual(edition.verse_of(number), place[:3])
                self.assertIs(type(edition.place(number)), tuple)

    def test_bounds(self):
        edition = Edition(MIXED)
        last = sizes(MIXED) - 1
        self.assertEqual((edition.place(0), edition.place(last)), (("gen", 1, 1, 1), ("num", 1, 3, 1)))
        self.assertEqual((edition.verse_of(0), edition.verse_of(last)), (("gen", 1, 1), ("num", 1, 3)))

    def test_no_number(self):
        edition = Edition(MIXED, [(3, sizes(MIXED))])
        for ask in (edition.place, edition.verse_of, edition.begins, edition.ends):
            for number in NO_NUMBERS + (-1, sizes(MIXED), sizes(MIXED) + 1, 10 ** 29, -10 ** 29, "0"):
                refused(self, NoNumber, {"found": number}, ask, number)

    def test_number_of_no_spot_of_four(self):
        edition = Edition(MIXED)
        for spot in (None, 0, "abcd", (), ("gen",), ("gen", 1), ("gen", 1, 1), ("gen", 1, 1, 1, 1), ("x", 9, 9), ("x",),
                     ["gen", 1, 1, 1], {}, (None,) * 3, (None,) * 5):
            refused(self, NoSpot, {"found": spot}, edition.number, spot)

    def test_number_of_what_is_not_there(self):
        edition = Edition(MIXED)
        for kind, found, spot in (
            (NoBook, "x", ("x", 1, 1, 1)), (NoBook, "x", ("x", 9, 9, 9)), (NoChapter, 3, ("gen", 3, 1, 1)),
            (NoChapter, True, ("gen", True, 1, 1)), (NoVerse, 4, ("gen", 1, 4, 9)), (NoPart, 3, ("gen", 1, 1, 3)),
            (NoVerse, False, ("gen", 1, False, 1)), (NoPart, True, ("gen", 1, 1, True)), (NoPart, 0, ("gen", 1, 1, 0)),
        ):
            refused(self, kind, {"found": found}, edition.number, spot)


class BeginsAndEnds(unittest.TestCase):
    def test_of_a_small_edition(self):
        edition = Edition(MIXED)
        for number, begins, ends in (
            (0, [("gen",), ("gen", 1), ("gen", 1, 1), ("gen", 1, 1, 1)], [("gen", 1, 1, 1)]),
            (1, [("gen", 1, 1, 2)], [("gen", 1, 1), ("gen", 1, 1, 2)]),
            (2, [("gen", 1, 2), ("gen", 1, 2, 1)], [("gen", 1, 2), ("gen", 1, 2, 1)]),
            (4, [("gen", 1, 3, 2)], [("gen", 1, 3, 2)]),
            (6, [("gen", 1, 3, 4)], [("gen", 1), ("gen", 1, 3), ("gen", 1, 3, 4)]),
            (7, [("gen", 2), ("gen", 2, 1), ("gen", 2, 1, 1)], [("gen", 2, 1), ("gen", 2, 1, 1)]),
            (10, [("gen", 2, 2, 3)], [("gen",), ("gen", 2), ("gen", 2, 2), ("gen", 2, 2, 3)]),
        ):
            self.assertEqual(edition.begins(number), begins)
            self.assertEqual(edition.ends(number), ends)
            self.assertIs(type(edition.begins(number)), list)
            self.assertIs(type(edition.ends(number)), list)

    def test_a_book_of_one_part(self):
        edition = Edition(MIXED)
        all_four = [("ex",), ("ex", 1), ("ex", 1, 1), ("ex", 1, 1, 1)]
        self.assertEqual((edition.begins(11), edition.ends(11)), (all_four, all_four))
        small = Edition(SMALL)
        all_four = [("a",), ("a", 1), ("a", 1, 1), ("a", 1, 1, 1)]
        self.assertEqual((small.begins(0), small.ends(0)), (all_four, all_four))

    def test_a_book_of_one_chapter(self):
        edition = Edition(MIXED)
        self.assertEqual(edition.begins(23), [("num",), ("num", 1), ("num", 1, 1), ("num", 1, 1, 1)])
        self.assertEqual(edition.ends(23), [("num", 1, 1, 1)])
        self.assertEqual(edition.begins(26), [("num", 1, 3), ("num", 1, 3, 1)])
        self.assertEqual(edition.ends(26), [("num",), ("num", 1), ("num", 1, 3), ("num", 1, 3, 1)])

    def test_of_all_parts_as_by_the_stretches(self):
        for books in ALL_BOOKS:
            edition = Edition(books)
            found = [spot for many in (1, 2, 3, 4) for spot in spots(books)[many]]
            for number in range(edition.size()):
                self.assertEqual(edition.begins(number), [s for s in found if edition.stretch(s)[0] == number])
                self.assertEqual(edition.ends(number), [s for s in found if edition.stretch(s)[1] == number])


if __name__ == "__main__":
    unittest.main()
