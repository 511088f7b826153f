"""Points 5, 6, 7, 20 and 21: how editions are made, and what is refused."""

import unittest

from bookplaces.editions import Edition
from bookplaces.errors import Doubled, NoEdition, NoLines, NoName, TooMany
from tests.checks import ALL_BOOKS, FULL, LONG, MIXED, SIX, SMALL, refused, refused_equal, sizes

NO_ROWS = (None, True, False, 0, 1, "", "a", "gen", {}, {"a": 1}, Edition(SMALL))


def copied(thing, kind):
    """The thing, tuples of (name, chapters) and pairs left, all else of this kind."""
    return kind([(name, kind([kind(verses) for verses in chapters])) for name, chapters in thing])


class Made(unittest.TestCase):
    def test_at_the_bounds(self):
        for books in ALL_BOOKS:
            edition = Edition(books)
            self.assertEqual(edition.told(), (books, ((0, sizes(books)),)))
        self.assertEqual(sizes(FULL), 400)
        self.assertEqual(sum([len(chapters) for _, chapters in FULL]), 40)
        self.assertEqual(len(SIX), 6)
        self.assertEqual((len(LONG[0][1][0]), len(LONG[1][1])), (30, 12))

    def test_four_hundred_parts_in_few_verses(self):
        books = (("a", ((4,) * 30,) * 3), ("b", ((4,) * 10,)))
        self.assertEqual(Edition(books).size(), 400)

    def test_lists_and_tuples_alike(self):
        for books in ALL_BOOKS:
            for kind in (list, tuple):
                self.assertEqual(Edition(copied(books, kind)).told()[0], books)
        self.assertEqual(Edition([("a", ([1], (2,)))]).told()[0], (("a", ((1,), (2,))),))

    def test_pairs_in_lists_and_tuples_alike(self):
        pairs = [(7, 2), (0, 1)]
        books = [("a", [[3]])]
        for lines in (pairs, tuple(pairs)):
            self.assertEqual(Edition(books, lines).lines(), [7, 8, 0])

    def test_lines_by_name_and_left_out(self):
        books = [("a", [[3]])]
        self.assertEqual(Edition(books).lines(), [0, 1, 2])
        self.assertEqual(Edition(books, None).lines(), [0, 1, 2])
        self.assertEqual(Edition(books, lines=None).lines(), [0, 1, 2])
        self.assertEqual(Edition(books, lines=[(5, 3)]).lines(), [5, 6, 7])

    def test_lines_in_any_order_and_at_their_bounds(self):
        edition = Edition([("a", [[4, 2]])], [(9999, 1), (0, 1), (500, 2), (9998, 1), (1, 1)])
        self.assertEqual(edition.lines(), [9999, 0, 500, 501, 9998, 1])

    def test_four_hundred_lines_in_one_pair_and_in_as_many(self):
        self.assertEqual(Edition(FULL, [(9600, 400)]).lines(), list(range(9600, 10000)))
        apart = list(range(9999, 9599, -1))
        self.assertEqual(Edition(FULL, [(line, 1) for line in apart]).lines(), apart)

    def test_pairs_that_touch(self):
        self.assertEqual(Edition([("a", [[4]])], [(2, 2), (0, 2)]).lines(), [2, 3, 0, 1])


class Books(unittest.TestCase):
    def test_no_row_of_books(self):
        for books in NO_ROWS + ([], (), [("a", [[1]])] * 7, tuple([("a" * (n % 6 + 1), [[1]]) for n in range(7)])):
            refused(self, NoEdition, {"found": books}, Edition, books)

    def test_seven_unlike_books(self):
        books = [(name, [[1]]) for name in "abcdefg"]
        refused(self, NoEdition, {"found": books}, Edition, books)
        self.assertEqual(Edition(books[:6]).names(), list("abcdef"))

    def test_no_book(self):
        for book in NO_ROWS + ((), ("b",), ("b", [[1]], 1), ["b", [[1]]], [], "bc"):
            refused(self, NoEdition, {"found": book}, Edition, [book])
            refused(self, NoEdition, {"found": book}, Edition, [("a", [[1]]), book, ("a", [[1]])])

    def test_no_name(self):
        for name in (None, True, 1, "", "A", "gen1", "abcdefg", "a b", ["a"], ("a",), {}, "\n"):
            refused(self, NoName, {"found": name}, Edition, [(name, [[1]])])
            refused(self, NoName, {"found": name}, Edition, (("a", [[1]]), (name, [[1]])))

    def test_doubled(self):
        for at in range(1, 6):
            for ahead in range(at):
                names = list("abcdef")
                names[at] = names[ahead]
                books = [(name, [[1]]) for name in names]
                refused(self, Doubled, {"found": names[at]}, Edition, books)

    def test_no_row_of_chapters(self):
        for chapters in NO_ROWS + ([], (), [[1]] * 13, ((1,),) * 13):
            refused(self, NoEdition, {"found": chapters}, Edition, [("a", chapters)])
            refused(self, NoEdition, {"found": chapters}, Edition, [("a", [[1]]), ("b", chapters)])
        self.assertEqual(Edition([("a", [[1]] * 12)]).chapters("a"), 12)

    def test_no_chapter(self):
        wrong = ([], (), [1] * 31, (1,) * 31, [0], [5], [1, 5], [1, 0, 1], [True], [1, False], [None], ["1"], [[1]],
                 [-1], (4, 10 ** 29), [1] * 29 + [5])
        for chapter in NO_ROWS + wrong:
            refused(self, NoEdition, {"found": chapter}, Edition, [("a", [chapter])])
            refused(self, NoEdition, {"found": chapter}, Edition, [("a", [[1]]), ("b", ([1], chapter, [1]))])
        self.assertEqual(Edition([("a", [[1] * 30])]).verses("a", 1), 30)

    def test_too_many_chapters(self):
        books = list(copied(FULL, list))
        refused_equal(self, TooMany, 41, Edition, books + [("e", [[1]])])
        most = [(name, [[1]] * 12) for name in "abcdef"]
        refused_equal(self, TooMany, 72, Edition, most)
        self.assertEqual(Edition([(name, [[1]] * 10) for name in "abcd"]).size(), 40)

    def test_too_many_parts(self):
        books = [("a", [[4] * 30] * 3), ("b", [[4] * 10 + [1]])]
        refused_equal(self, TooMany, 401, Edition, books)
        refused_equal(self, TooMany, 40 * 120, Edition, [(name, [[4] * 30] * 10) for name in "abcd"])


class Lines(unittest.TestCase):
    books = [("a", [[2, 1]])]

    def test_no_row_of_lines(self):
        for lines in (True, False, 0, 3, "", "abc", {}, {0: 3}, Edition(SMALL), [(0, 1)] * 401, ((0, 3),) * 401):
            refused(self, NoLines, {"found": lines}, Edition, self.books, lines)

    def test_four_hundred_and_one_unlike_pairs(self):
        lines = [(line, 1) for line in range(401)]
        refused(self, NoLines, {"found": lines}, Edition, FULL, lines)

    def test_no_pair(self):
        wrong = (None, True, 0, "ab", [], [0, 3], (), (0,), (0, 3, 1), {}, (-1, 1), (10000, 1), (0, 0), (0, -1),
                 (0, 401), (9999, 2), (9600, 401), (9601, 400), (True, 1), (0, True), (None, 3), (0, None), ("0", 3),
                 (0, "3"), ([0], 3), (10 ** 29, 1), (0, 10 ** 29))
        for pair in wrong:
            refused(self, NoLines, {"found": pair}, Edition, self.books, [pair])
            refused(self, NoLines, {"found": pair}, Edition, self.books, ((5000, 3), pair, (5000, 3)))

    def test_pairs_that_share_a_line(self):
        for pair in ((10, 1), (14, 1), (12, 1), (9, 2), (14, 3), (0, 400), (10, 5), (8, 9)):
            pair = tuple(list(pair))
            refused(self, NoLines, {"found": pair}, Edition, self.books, [(10, 5), (100, 1), pair])

    def test_more_or_fewer_lines_than_parts(self):
        for lines in ([], (), [(0, 2)], [(0, 4)], [(0, 1), (5, 1)], ((0, 3), (7, 1)), [(0, 400)]):
            refused(self, NoLines, {"found": lines}, Edition, self.books, lines)
        refused(self, NoLines, {"found": ()}, Edition, SMALL, ())


class Order(unittest.TestCase):
    """Of two refusals that are due at once, the earlier one is told."""

    def test_of_the_books(self):
        no_book = ["b", [[1]]]
        no_chapters = []
        no_chapter = [9]
        good = ("a", [[1]])
        for kind, found, books in (
            (NoEdition, no_book, [good, no_book, ("A", [[1]])]),
            (NoName, "A", [("A", no_chapters)]),
            (NoName, "A", [("A", [no_chapter])]),
            (Doubled, "a", [good, ("a", no_chapters)]),
            (Doubled, "a", [good, ("a", [no_chapter])]),
            (NoEdition, no_chapters, [("a", no_chapters), no_book]),
            (NoEdition, no_chapter, [("a", [no_chapter]), ("A", [[1]])]),
            (NoEdition, no_chapter, [("a", [[1], no_chapter]), ("a", [[1]])]),
            (NoEdition, no_chapter, [("a", [no_chapter, no_chapters])]),
            (NoEdition, no_chapters, [("a", [no_chapters, no_chapter])]),
            (NoEdition, no_chapter, [(name, [[4] * 30] * 11) for name in "abcde"] + [("f", [no_chapter])]),
        ):
            refused(self, kind, {"found": found}, Edition, books)

    def test_seven_books_ahead_of_what_is_in_them(self):
        books = [None] * 7
        refused(self, NoEdition, {"found": books}, Edition, books)

    def test_thirteen_chapters_ahead_of_what_is_in_them(self):
        chapters = [None] * 13
        refused(self, NoEdition, {"found": chapters}, Edition, [("a", chapters)])

    def test_chapters_counted_ahead_of_parts(self):
        refused_equal(self, TooMany, 48, Edition, [(name, [[4] * 30] * 12) for name in "abcd"])

    def test_counts_ahead_of_lines(self):
        refused_equal(self, TooMany, 48, Edition, [(name, [[1]] * 12) for name in "abcd"], 7)
        refused_equal(self, TooMany, 480, Edition, [("a", [[4] * 30] * 4)], [(0, 0)])

    def test_books_ahead_of_lines(self):
        refused(self, NoEdition, {"found": None}, Edition, None, None)
        refused(self, NoName, {"found": "A"}, Edition, [("A", [[1]])], [(0, 2)])

    def test_pairs_in_their_order_and_ahead_of_the_count(self):
        first = (0, 0)
        second = (0, 401)
        refused(self, NoLines, {"found": first}, Edition, [("a", [[3]])], [(0, 9), first, second])
        refused(self, NoLines, {"found": second}, Edition, [("a", [[3]])], [(0, 9), second, first])

    def test_too_many_pairs_ahead_of_what_is_in_them(self):
        lines = [None] * 401
        refused(self, NoLines, {"found": lines}, Edition, [("a", [[3]])], lines)


class Kept(unittest.TestCase):
    def test_what_is_changed_afterwards_changes_nothing(self):
        chapters = [[2, 1], [3]]
        books = [("a", chapters), ("b", [[1]])]
        lines = [(3, 4), (100, 3)]
        edition = Edition(books, lines)
        told = edition.told()
        chapters[0][0] = 4
        chapters[1].append(2)
        chapters.append([1])
        books.pop()
        lines.clear()
        self.assertEqual(edition.told(), told)
        self.assertEqual(edition.told(), ((("a", ((2, 1), (3,))), ("b", ((1,),))), ((3, 4), (100, 3))))
        self.assertEqual((edition.names(), edition.size()), (["a", "b"], 7))
        self.assertEqual((edition.chapters("a"), edition.verses("a", 2), edition.parts("a", 1, 1)), (2, 1, 2))

    def test_what_is_handed_in_is_not_changed(self):
        books = [("a", [[2, 1], (3,)]), ("b", ([1],))]
        lines = [(3, 4), (0, 3)]
        Edition(books, lines)
        self.assertEqual(books, [("a", [[2, 1], (3,)]), ("b", ([1],))])
        self.assertEqual(lines, [(3, 4), (0, 3)])

    def test_one_list_handed_in_twice(self):
        chapter = [1, 2]
        edition = Edition([("a", [chapter, chapter]), ("b", [chapter])])
        chapter[0] = 4
        self.assertEqual(edition.told()[0], (("a", ((1, 2), (1, 2))), ("b", ((1, 2),))))

    def test_refusals_hold_the_very_things(self):
        chapter = [9]
        with self.assertRaises(NoEdition) as caught:
            Edition([("a", [chapter])])
        chapter.append(1)
        self.assertEqual(caught.exception.found, [9, 1])

    def test_what_was_refused_can_be_mended(self):
        books = [("a", [[1], [9]])]
        refused(self, NoEdition, {"found": books[0][1][1]}, Edition, books)
        books[0][1][1][0] = 2
        self.assertEqual(Edition(books).told()[0], (("a", ((1,), (2,))),))

    def test_two_editions_have_nothing_in_common(self):
        books = [("a", [[1], [2]])]
        one = Edition(books)
        books[0][1].append([3])
        other = Edition(books)
        self.assertEqual((one.size(), other.size()), (3, 6))


if __name__ == "__main__":
    unittest.main()
