"""Points 4, 6, 9, 22 and 23: what an edition tells of itself."""

import unittest

from bookplaces.editions import Edition
from bookplaces.errors import NoBook, NoChapter, NoNumber, NoVerse
from tests.checks import ALL_BOOKS, FULL, MIXED, NO_NUMBERS, SMALL, refused, sizes, spots_of_four

NO_NAMES = (None, True, 0, 1, "", "GEN", "gen ", "genx", "ge", ["gen"], ("gen",), {}, {"gen": 1}, [[]], Edition(SMALL))


def whole(case, number):
    case.assertIs(type(number), int)
    return number


class Counts(unittest.TestCase):
    def test_names_in_order(self):
        self.assertEqual(Edition(MIXED).names(), ["gen", "ex", "lev", "num"])
        self.assertEqual(Edition(tuple(reversed(MIXED))).names(), ["num", "lev", "ex", "gen"])

    def test_counts(self):
        for books in ALL_BOOKS:
            edition = Edition(books)
            self.assertEqual(edition.names(), [name for name, _ in books])
            self.assertEqual(whole(self, edition.size()), sizes(books))
            for name, chapters in books:
                self.assertEqual(whole(self, edition.chapters(name)), len(chapters))
                for chapter, verses in enumerate(chapters, 1):
                    self.assertEqual(whole(self, edition.verses(name, chapter)), len(verses))
                    told = [whole(self, edition.parts(name, chapter, verse)) for verse in range(1, len(verses) + 1)]
                    self.assertEqual(told, list(verses))

    def test_no_book(self):
        edition = Edition(MIXED)
        for name in NO_NAMES:
            refused(self, NoBook, {"found": name}, edition.chapters, name)
            refused(self, NoBook, {"found": name}, edition.verses, name, 99)
            refused(self, NoBook, {"found": name}, edition.parts, name, 99, 99)

    def test_no_chapter(self):
        edition = Edition(MIXED)
        for chapter in NO_NUMBERS + (0, -1, 3, -2, 10 ** 29):
            refused(self, NoChapter, {"found": chapter}, edition.verses, "gen", chapter)
            refused(self, NoChapter, {"found": chapter}, edition.parts, "gen", chapter, 99)
        refused(self, NoChapter, {"found": 2}, edition.verses, "ex", 2)

    def test_no_verse(self):
        edition = Edition(MIXED)
        for verse in NO_NUMBERS + (0, -1, 4, -3, 10 ** 29):
            refused(self, NoVerse, {"found": verse}, edition.parts, "gen", 1, verse)
        refused(self, NoVerse, {"found": 3}, edition.parts, "gen", 2, 3)


class LinesTold(unittest.TestCase):
    def test_lines_of_themselves(self):
        for books in ALL_BOOKS:
            edition = Edition(books)
            size = sizes(books)
            self.assertEqual(edition.lines(), list(range(size)))
            self.assertEqual([edition.line_at(number) for number in range(size)], list(range(size)))
            self.assertEqual([edition.part_of(line) for line in range(size)], list(range(size)))
            self.assertIsNone(edition.part_of(size))

    def test_lines_handed_in(self):
        edition = Edition([("a", [[4, 2]])], [(9999, 1), (0, 1), (500, 2), (9998, 1), (1, 1)])
        lines = [9999, 0, 500, 501, 9998, 1]
        self.assertEqual(edition.lines(), lines)
        self.assertEqual([whole(self, edition.line_at(number)) for number in range(6)], lines)
        self.assertEqual([whole(self, edition.part_of(line)) for line in lines], [0, 1, 2, 3, 4, 5])

    def test_lines_and_parts_back_and_forth(self):
        edition = Edition(FULL, [(line * 7, 1) for line in range(399, -1, -1)])
        for number in range(400):
            self.assertEqual(edition.line_at(number), (399 - number) * 7)
            self.assertEqual(edition.part_of(edition.line_at(number)), number)

    def test_line_at_refuses(self):
        edition = Edition(MIXED, [(1000, sizes(MIXED))])
        for number in NO_NUMBERS + (-1, sizes(MIXED), 1000, 10 ** 29, -10 ** 29):
            refused(self, NoNumber, {"found": number}, edition.line_at, number)
        self.assertEqual(edition.line_at(0), 1000)
        self.assertEqual(edition.line_at(sizes(MIXED) - 1), 999 + sizes(MIXED))

    def test_lines_that_no_part_has(self):
        edition = Edition([("a", [[4, 2]])], [(9999, 1), (0, 1), (500, 2), (9998, 1), (1, 1)])
        for thing in NO_NUMBERS + (2, 499, 502, 9997, 10000, -1, 10 ** 29, "500", (500,)):
            self.assertIsNone(edition.part_of(thing))


class ToldAndSame(unittest.TestCase):
    def test_told(self):
        edition = Edition([("a", [[2, 1], (1,)]), ("b", ([3],))], [(5, 4), (0, 3)])
        self.assertEqual(edition.told(), ((("a", ((2, 1), (1,))), ("b", ((3,),))), ((5, 4), (0, 3))))
        self.assertEqual(Edition(MIXED).told(), (MIXED, ((0, sizes(MIXED)),)))

    def test_fewest_pairs(self):
        books = [("a", [[4, 2]])]
        for lines, pairs in (
            ([(0, 1), (1, 1), (2, 1), (3, 1), (4, 1), (5, 1)], ((0, 6),)),
            ([(0, 3), (3, 3)], ((0, 6),)),
            ([(7, 2), (9, 1), (0, 3)], ((7, 3), (0, 3))),
            ([(3, 3), (0, 3)], ((3, 3), (0, 3))),
            ([(5, 1), (4, 1), (3, 1), (2, 1), (1, 1), (0, 1)], ((5, 1), (4, 1), (3, 1), (2, 1), (1, 1), (0, 1))),
            ([(9998, 2), (0, 1), (1, 1), (3, 1), (4, 1)], ((9998, 2), (0, 2), (3, 2))),
            ([(9999, 1), (0, 1), (2, 1), (4, 2), (1, 1)], ((9999, 1), (0, 1), (2, 1), (4, 2), (1, 1))),
            ([(1, 5), (0, 1)], ((1, 5), (0, 1))),
            ([(0, 1), (2, 5)], ((0, 1), (2, 5))),
        ):
            self.assertEqual(Edition(books, lines).told()[1], pairs)

    def test_all_told_is_of_tuples_and_whole_numbers(self):
        books, pairs = Edition([("a", [[2, 1]])], [(3, 2), (0, 1)]).told()
        self.assertEqual(repr((books, pairs)), "((('a', ((2, 1),)),), ((3, 2), (0, 1)))")

    def test_made_of_what_is_told_is_the_same(self):
        for books in ALL_BOOKS:
            size = sizes(books)
            for lines in (None, [(9000, size)], [(line, 1) for line in range(size)],
                          [(size - line, 1) for line in range(size)],
                          [(line * 20 % 9999, 1) for line in range(size)]):
                edition = Edition(books, lines)
                again = Edition(*edition.told())
                self.assertIs(edition.same(again), True)
                self.assertIs(again.same(edition), True)
                self.assertEqual(again.told(), edition.told())
                self.assertEqual(again.lines(), edition.lines())

    def test_same_by_lists_and_tuples_and_lines_told_otherwise(self):
        one = Edition([("a", [[2, 1]])])
        for other in (one, Edition((("a", ((2, 1),)),)), Edition([("a", [[2, 1]])], [(0, 3)]),
                      Edition([("a", [[2, 1]])], ((0, 1), (1, 1), (2, 1)))):
            self.assertIs(one.same(other), True)
            self.assertIs(other.same(one), True)

    def test_not_the_same(self):
        one = Edition([("a", [[2, 1], [1]]), ("b", [[2]])], [(0, 4), (7, 2)])
        for books, lines in (
            ([("a", [[2, 1], [1]]), ("c", [[2]])], [(0, 4), (7, 2)]),
            ([("b", [[2, 1], [1]]), ("a", [[2]])], [(0, 4), (7, 2)]),
            ([("b", [[2]]), ("a", [[2, 1], [1]])], [(0, 4), (7, 2)]),
            ([("a", [[2], [1, 1]]), ("b", [[2]])], [(0, 4), (7, 2)]),
            ([("a", [[2, 1, 1]]), ("b", [[2]])], [(0, 4), (7, 2)]),
            ([("a", [[1, 2], [1]]), ("b", [[2]])], [(0, 4), (7, 2)]),
            ([("a", [[2, 1], [1]]), ("b", [[1, 1]])], [(0, 4), (7, 2)]),
            ([("a", [[2, 1], [1]]), ("b", [[3]])], [(0, 4), (7, 3)]),
            ([("a", [[2, 1], [1], [2]])], [(0, 4), (7, 2)]),
            ([("a", [[2, 1], [1]]), ("b", [[2]])], None),
            ([("a", [[2, 1], [1]]), ("b", [[2]])], [(7, 2), (0, 4)]),
            ([("a", [[2, 1], [1]]), ("b", [[2]])], [(0, 4), (8, 2)]),
            ([("a", [[2, 1], [1]]), ("b", [[2]])], [(0, 4), (8, 1), (7, 1)]),
        ):
            other = Edition(books, lines)
            self.assertIs(one.same(other), False)
            self.assertIs(other.same(one), False)

    def test_other_things_are_not_the_same(self):
        edition = Edition(SMALL)
        for thing in NO_NUMBERS[:-1] + (0, 1, SMALL, edition.told(), list(SMALL), Edition):
            self.assertIs(edition.same(thing), False)
        self.assertIs(edition.same(NO_NUMBERS[-1]), True)


class ToldAnew(unittest.TestCase):
    def test_lists_told_are_the_askers_own(self):
        edition = Edition(MIXED, [(50, sizes(MIXED))])
        asks = (edition.names, edition.lines, lambda: edition.begins(0), lambda: edition.ends(sizes(MIXED) - 1))
        for ask in asks:
            told = ask()
            wanted = list(told)
            told.append("more")
            told[0] = "other"
            self.assertEqual(ask(), wanted)
            ask().clear()
            self.assertEqual(ask(), wanted)
            self.assertIsNot(ask(), ask())

    def test_lists_told_change_nothing_else(self):
        edition = Edition(MIXED)
        edition.names().clear()
        edition.lines().reverse()
        edition.begins(0).clear()
        self.assertEqual(edition.told(), (MIXED, ((0, sizes(MIXED)),)))
        self.assertEqual(edition.line_at(0), 0)
        self.assertEqual(edition.stretch(("gen",)), (0, 10))

    def test_refusals_change_nothing(self):
        edition = Edition(MIXED)
        told = edition.told()
        refused(self, NoBook, {"found": None}, edition.chapters, None)
        refused(self, NoNumber, {"found": -1}, edition.line_at, -1)
        refused(self, NoChapter, {"found": 9}, edition.stretch, ("gen", 9))
        self.assertEqual(edition.told(), told)
        self.assertEqual(edition.number(("gen", 1, 1, 1)), 0)


class OtherNames(unittest.TestCase):
    def test_all_is_told_likewise_by_other_names(self):
        others = {"gen": "zz", "ex": "aaaaaa", "lev": "gen", "num": "m"}
        one = Edition(MIXED)
        other = Edition([(others[name], chapters) for name, chapters in MIXED])
        for number, place in enumerate(spots_of_four(MIXED)):
            self.assertEqual(other.place(number), (others[place[0]],) + place[1:])
            self.assertEqual(len(other.begins(number)), len(one.begins(number)))
            for many in (1, 2, 3, 4):
                self.assertEqual(other.stretch((others[place[0]],) + place[1:many]), one.stretch(place[:many]))


if __name__ == "__main__":
    unittest.main()
