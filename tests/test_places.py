"""Points 30 to 33: places made, and what they tell of themselves."""

import unittest

from bookplaces.editions import Edition
from bookplaces.errors import NoBook, NoChapter, NoEdition, NoNumber, NoPart, NoPlaces, NoSpot, NoVerse
from bookplaces.leading import Leading
from bookplaces.places import Places
from bookplaces.reading import read
from tests.checks import ALL_BOOKS, FULL, MIXED, NO_NUMBERS, SMALL, refused, sets_of, sizes, spots_of_four

EDITION = Edition(MIXED)
SIZE = sizes(MIXED)
NO_EDITIONS = (None, True, 0, "", "gen", (), [], {}, MIXED, Places(EDITION))
TOUCHING = [(number, number) for number in range(400)]


def runs(*pairs):
    return Places(EDITION, list(pairs)).runs()


class Made(unittest.TestCase):
    def test_of_nothing(self):
        for places in (Places(EDITION), Places(EDITION, None), Places(EDITION, []), Places(EDITION, ()),
                       Places(EDITION, pairs=None), Places(EDITION, pairs=[])):
            self.assertEqual((places.runs(), places.numbers(), len(places)), ([], [], 0))

    def test_of_one_pair(self):
        self.assertEqual(runs((3, 5)), [(3, 5)])
        self.assertEqual(runs((4, 4)), [(4, 4)])
        self.assertEqual(runs((0, SIZE - 1)), [(0, SIZE - 1)])

    def test_lists_and_tuples_alike(self):
        self.assertEqual(Places(EDITION, ((3, 5), (0, 0))).runs(), Places(EDITION, pairs=[(3, 5), (0, 0)]).runs())

    def test_any_order(self):
        self.assertEqual(runs((20, 22), (9, 9), (0, 3), (12, 13)), [(0, 3), (9, 9), (12, 13), (20, 22)])

    def test_overlapping(self):
        self.assertEqual(runs((3, 8), (5, 10)), [(3, 10)])
        self.assertEqual(runs((5, 10), (3, 8)), [(3, 10)])
        self.assertEqual(runs((3, 10), (5, 6), (4, 4)), [(3, 10)])
        self.assertEqual(runs((5, 6), (3, 10)), [(3, 10)])
        self.assertEqual(runs((3, 4), (3, 10), (10, 12)), [(3, 12)])

    def test_touching(self):
        self.assertEqual(runs((3, 4), (5, 6)), [(3, 6)])
        self.assertEqual(runs((5, 6), (3, 4), (7, 7)), [(3, 7)])
        self.assertEqual(runs((3, 4), (6, 7)), [(3, 4), (6, 7)])

    def test_alike(self):
        self.assertEqual(runs((3, 4), (3, 4), (3, 4)), [(3, 4)])

    def test_parts_that_lie_in_some_pair(self):
        pairs = [(first, last) for first in range(0, 9, 3) for last in range(first, 9, 2)]
        for chosen in sets_of(len(pairs)):
            some = [pairs[k] for k in reversed(chosen)]
            held = [n for n in range(SIZE) if any(first <= n <= last for first, last in some)]
            self.assertEqual(Places(EDITION, some).numbers(), held)

    def test_four_hundred_pairs_and_one_more(self):
        edition = Edition(FULL)
        self.assertEqual(Places(edition, TOUCHING).runs(), [(0, 399)])
        self.assertEqual(Places(edition, [(7, 9)] * 400).runs(), [(7, 9)])
        self.assertEqual(Places(edition, [(0, 399)] * 400).runs(), [(0, 399)])
        for pairs in (TOUCHING + [(0, 0)], tuple(TOUCHING + [(0, 0)]), [(7, 9)] * 401, [None] * 401):
            refused(self, NoPlaces, {"found": pairs}, Places, edition, pairs)

    def test_two_hundred_runs(self):
        every_second = [(number, number) for number in range(0, 400, 2)]
        self.assertEqual(Places(Edition(FULL), every_second).runs(), every_second)


class Refused(unittest.TestCase):
    def test_no_edition(self):
        for thing in NO_EDITIONS:
            refused(self, NoEdition, {"found": thing}, Places, thing)
            refused(self, NoEdition, {"found": thing}, Places, thing, "no pairs either")

    def test_no_row_of_pairs(self):
        for pairs in (True, False, 0, 3, "", "ab", {}, {(0, 1): 1}, EDITION, Places(EDITION)):
            refused(self, NoPlaces, {"found": pairs}, Places, EDITION, pairs)

    def test_no_pair(self):
        for pair in (None, True, 0, "", "ab", (), (1,), (1, 2, 3), [1, 2], [], {}, {0: 1, 1: 2}, EDITION):
            for pairs in ([pair], (pair,), [(0, 1), pair, (9, 9)]):
                refused(self, NoPlaces, {"found": pair}, Places, EDITION, pairs)

    def test_no_numbers_of_parts(self):
        for number in NO_NUMBERS + (-1, SIZE, 10 ** 29, -10 ** 29):
            for pair in ((number, 5), (0, number), (number, number)):
                refused(self, NoPlaces, {"found": pair}, Places, EDITION, [(0, 0), pair])

    def test_first_greater_than_last(self):
        for pair in ((1, 0), (5, 4), (SIZE - 1, 0)):
            refused(self, NoPlaces, {"found": pair}, Places, EDITION, [pair])

    def test_the_first_of_two(self):
        bad, worse = (5, 4), "no pair"
        for pairs, found in (([bad, worse], bad), ([worse, bad], worse), ([(0, 1), worse, (2, 2), bad], worse)):
            refused(self, NoPlaces, {"found": found}, Places, EDITION, pairs)


class Kept(unittest.TestCase):
    def test_handed_in_and_changed_afterwards(self):
        pairs = [(3, 5), (0, 0)]
        places = Places(EDITION, pairs)
        pairs.append((9, 9))
        pairs[0] = (20, 20)
        self.assertEqual(places.runs(), [(0, 0), (3, 5)])

    def test_handed_in_is_not_changed(self):
        pairs = [(9, 9), (3, 5), (4, 6), (3, 5)]
        Places(EDITION, pairs).numbers()
        self.assertEqual(pairs, [(9, 9), (3, 5), (4, 6), (3, 5)])

    def test_told_and_changed_afterwards(self):
        places = Places(EDITION, [(3, 5)])
        for ask in (places.runs, places.numbers, places.spots):
            told = ask()
            answer = list(told)
            told.append("more")
            told[0] = None
            self.assertEqual(ask(), answer)
        self.assertEqual((str(places), len(places), places.has(4), places.kth(0)), ("3-5", 3, True, 3))

    def test_edition_is_the_same(self):
        for books in ALL_BOOKS:
            edition = Edition(books, [(9999 - number, 1) for number in range(sizes(books))])
            self.assertIs(type(Places(edition).edition()), Edition)
            self.assertTrue(Places(edition).edition().same(edition))


class Parts(unittest.TestCase):
    def test_runs_over_the_ends_of_verses_chapters_and_books(self):
        for first, last in ((1, 2), (6, 7), (10, 11), (11, 12), (0, 26), (10, 23)):
            self.assertEqual(runs((first, last)), [(first, last)])
            self.assertEqual(runs(*[(n, n) for n in range(first, last + 1)]), [(first, last)])

    def test_runs_and_numbers_of_all_sets(self):
        edition = Edition(MIXED[:1])
        for held in sets_of(10):
            places = Places(edition, [(n, n) for n in reversed(held)])
            told = places.runs()
            self.assertEqual(places.numbers(), held)
            self.assertEqual([n for first, last in told for n in range(first, last + 1)], held)
            for ahead, behind in zip(told, told[1:]):
                self.assertGreater(behind[0], ahead[1] + 1)
            self.assertEqual([n for n in range(-2, 14) if places.has(n)], held)

    def test_kinds(self):
        places = Places(EDITION, [(1, 3), (5, 5)])
        self.assertIs(type(places.runs()), list)
        for run in places.runs():
            self.assertEqual((type(run), [type(n) for n in run]), (tuple, [int, int]))
        self.assertEqual((type(places.numbers()), {type(n) for n in places.numbers()}), (list, {int}))

    def test_has_nothing_but_numbers_of_parts(self):
        places = Places(EDITION, [(0, SIZE - 1)])
        for number in range(SIZE):
            self.assertIs(places.has(number), True)
            self.assertIs(Places(EDITION).has(number), False)
        for thing in NO_NUMBERS + (-1, SIZE, 10 ** 29, -10 ** 29, "0", places, [0], {0: 0}, (0, 0)):
            self.assertIs(places.has(thing), False)

    def test_spots(self):
        self.assertEqual(Places(EDITION).spots(), [])
        self.assertEqual(Places(EDITION, [(4, 5)]).spots(), [("gen", 1, 3)])
        self.assertEqual(Places(EDITION, [(24, 25), (1, 3), (6, 7), (11, 11)]).spots(),
                         [("gen", 1, 1), ("gen", 1, 2), ("gen", 1, 3), ("gen", 2, 1), ("ex", 1, 1), ("num", 1, 1), ("num", 1, 2)])
        self.assertIs(type(Places(EDITION, [(4, 5)]).spots()[0]), tuple)

    def test_spots_of_all_parts(self):
        for books in ALL_BOOKS:
            verses = list(dict.fromkeys(place[:3] for place in spots_of_four(books)))
            self.assertEqual(Places(Edition(books), [(0, sizes(books) - 1)]).spots(), verses)


class Whole(unittest.TestCase):
    def test_all_spots_of_some_places(self):
        places = spots_of_four(MIXED)
        spots = list(dict.fromkeys(place[:many] for place in places for many in (1, 2, 3, 4)))
        for pairs in ([], [(0, 26)], [(0, 10)], [(0, 5), (7, 10)], [(3, 6), (11, 11)], [(1, 25)], [(12, 14), (17, 22)]):
            held = Places(EDITION, pairs)
            for spot in spots:
                parts = [n for n, place in enumerate(places) if place[:len(spot)] == spot]
                self.assertIs(held.whole(spot), all(held.has(n) for n in parts), (pairs, spot))

    def test_refused_as_by_the_stretch(self):
        places = Places(EDITION, [(0, 5)])
        for spot in (None, "gen", (), ["gen"], ("gen", 1, 1, 1, 1), 0, True, {}):
            refused(self, NoSpot, {"found": spot}, places.whole, spot)
        for kind, found, spot in (
            (NoBook, "x", ("x", 9)), (NoChapter, 3, ("gen", 3, 9)), (NoChapter, True, ("gen", True)),
            (NoVerse, 4, ("gen", 1, 4, 9)), (NoPart, 3, ("gen", 1, 1, 3)), (NoBook, None, (None,)),
        ):
            refused(self, kind, {"found": found}, places.whole, spot)


class Texts(unittest.TestCase):
    def test_len_and_truth(self):
        self.assertEqual(len(Places(EDITION, [(3, 5), (9, 9)])), 4)
        self.assertEqual(len(Places(EDITION, [(0, SIZE - 1)])), SIZE)
        self.assertTrue(Places(EDITION, [(0, 0)]))
        self.assertFalse(Places(EDITION))
        self.assertIs(bool(Places(EDITION, [])), False)

    def test_text(self):
        for pairs, text in (
            (None, "none"), ([], "none"), ([(0, 0)], "0"), ([(3, 5)], "3-5"), ([(9, 9), (3, 4)], "3-4 9"),
            ([(0, 0), (2, 2), (4, 10), (12, 26)], "0 2 4-10 12-26"), ([(3, 3), (4, 4)], "3-4"),
        ):
            self.assertEqual(str(Places(EDITION, pairs)), text)
            self.assertEqual(repr(Places(EDITION, pairs)), f"Places({text})")
            self.assertEqual(f"{[Places(EDITION, pairs)]}", f"[Places({text})]")


class Equal(unittest.TestCase):
    def test_same_edition_made_anew(self):
        for lines in (None, [(0, SIZE)], [(number, 1) for number in range(SIZE)]):
            anew = Places(Edition([(name, [list(c) for c in book]) for name, book in MIXED], lines), [(4, 5), (3, 3)])
            self.assertTrue(anew == Places(EDITION, [(3, 5)]))
            self.assertFalse(anew != Places(EDITION, [(3, 5)]))
            self.assertTrue(Places(EDITION, [(3, 5)]) == anew)

    def test_other_parts(self):
        for pairs in (None, [(3, 4)], [(3, 6)], [(0, 0), (3, 5)]):
            self.assertFalse(Places(EDITION, [(3, 5)]) == Places(EDITION, pairs))
            self.assertTrue(Places(EDITION, [(3, 5)]) != Places(EDITION, pairs))

    def test_other_editions(self):
        names = Edition((("lev", MIXED[0][1]),) + MIXED[1:2] + (("gen", MIXED[2][1]),) + MIXED[3:])
        for other in (names, Edition(MIXED[:3]), Edition(MIXED, [(1, SIZE)]), Edition(FULL), Edition(MIXED[:1])):
            for pairs in (None, [(3, 5)]):
                self.assertFalse(Places(EDITION, pairs) == Places(other, pairs))
                self.assertTrue(Places(EDITION, pairs) != Places(other, pairs))

    def test_no_places(self):
        places = Places(EDITION, [(3, 5)])
        for thing in NO_NUMBERS + ([(3, 5)], "3-5", [3, 4, 5], ((3, 5),), 3, EDITION, Leading(EDITION, EDITION),
                                   read(EDITION, "gen 1:3a"), [places], (places,), "Places(3-5)", int, Places):
            self.assertIs(places == thing, False)
            self.assertIs(places != thing, True)
            self.assertIs(thing == places, False)
        self.assertIs(Places(EDITION) == None, False)  # noqa: E711
        self.assertIs(Places(EDITION) == [], False)
        self.assertIs(Places(EDITION) == False, False)  # noqa: E712
        self.assertIn(Places(EDITION, [(3, 5)]), [1, places])
        self.assertNotIn(Places(EDITION), [None, 0, False, [], places])


class Ranks(unittest.TestCase):
    def test_kth_and_rank_of_all_sets(self):
        edition = Edition(MIXED[:1])
        for held in sets_of(9):
            places = Places(edition, [(n, n) for n in held])
            self.assertEqual([places.kth(k) for k in range(len(held))], held)
            for number in range(-2, 15):
                self.assertEqual(places.rank(number), sum(1 for n in held if n < number))
            for k in range(len(held)):
                self.assertEqual(places.rank(places.kth(k)), k)
            for k in (-1, len(held), len(held) + 1):
                refused(self, NoNumber, {"found": k}, places.kth, k)

    def test_kinds(self):
        places = Places(EDITION, [(0, 3)])
        self.assertEqual([type(places.kth(1)), type(places.rank(1)), type(places.rank(0))], [int, int, int])

    def test_far_beyond(self):
        places = Places(EDITION, [(3, 5), (9, 9)])
        for number, rank in ((-10 ** 29, 0), (-1, 0), (0, 0), (3, 0), (4, 1), (9, 3), (10, 4), (SIZE, 4), (10 ** 29, 4)):
            self.assertEqual(places.rank(number), rank)
            self.assertEqual(Places(EDITION).rank(number), 0)
        for k in (-10 ** 29, -4, -1, 4, 5, SIZE, 10 ** 29):
            refused(self, NoNumber, {"found": k}, places.kth, k)

    def test_no_number(self):
        for places in (Places(EDITION, [(0, 5)]), Places(EDITION)):
            for thing in NO_NUMBERS + ("0",):
                refused(self, NoNumber, {"found": thing}, places.kth, thing)
                refused(self, NoNumber, {"found": thing}, places.rank, thing)

    def test_of_none(self):
        refused(self, NoNumber, {"found": 0}, Places(EDITION).kth, 0)
        refused(self, NoNumber, {"found": 0}, Places(Edition(SMALL)).kth, 0)


if __name__ == "__main__":
    unittest.main()
