"""Points 34 and 35: places that come of others, of spots and of numbers."""

import unittest

from bookplaces.editions import Edition
from bookplaces.errors import NoBook, NoChapter, NoDeed, NoEdition, NoNumber, NoPart, NoPlaces, NoSpot, NoVerse
from bookplaces.places import Places, all_of, combined, numbered, spot_places, united
from tests.checks import ALL_BOOKS, FULL, MIXED, NO_NUMBERS, refused, sets_of, sizes, spots_of_four

EDITION = Edition(MIXED)
SIZE = sizes(MIXED)
TINY = (("a", ((1, 2), (1,))), ("b", ((1,),)))
OTHERS = (Edition(MIXED[:3]), Edition(MIXED, [(1, SIZE)]), Edition(tuple(reversed(MIXED))))
NO_PLACES = NO_NUMBERS + ([], [(0, 1)], "0-1", ((0, 1),), 0, 1) + tuple(Places(other, [(0, 1)]) for other in OTHERS)
DEEDS = {
    "join": lambda one, other: one | other, "meet": lambda one, other: one & other,
    "leave": lambda one, other: one - other, "apart": lambda one, other: one ^ other,
}


def method_of(places, word):
    return {"join": places.joined, "meet": places.met, "leave": places.without, "apart": places.apart}[word]


def made(*numbers):
    return Places(EDITION, [(number, number) for number in numbers])


class Deeds(unittest.TestCase):
    def test_all_sets_of_a_tiny_edition(self):
        edition = Edition(TINY)
        for some in sets_of(5):
            one = numbered(edition, some)
            for others in sets_of(5):
                other = numbered(Edition(TINY), others)
                for word, deed in DEEDS.items():
                    wanted = sorted(deed(set(some), set(others)))
                    self.assertEqual(method_of(one, word)(other).numbers(), wanted)
                    self.assertEqual(combined(word, one, other).numbers(), wanted)
                self.assertIs(one.within(other), set(some) <= set(others))
            self.assertEqual(one.rest().numbers(), [n for n in range(5) if n not in some])

    def test_runs_of_what_comes_of_them(self):
        one, other = Places(EDITION, [(0, 4), (9, 12)]), Places(EDITION, [(3, 9), (20, 20)])
        self.assertEqual(one.joined(other).runs(), [(0, 12), (20, 20)])
        self.assertEqual(one.met(other).runs(), [(3, 4), (9, 9)])
        self.assertEqual(one.without(other).runs(), [(0, 2), (10, 12)])
        self.assertEqual(other.without(one).runs(), [(5, 8), (20, 20)])
        self.assertEqual(one.apart(other).runs(), [(0, 2), (5, 8), (10, 12), (20, 20)])
        self.assertEqual(one.rest().runs(), [(5, 8), (13, 26)])

    def test_none_and_all(self):
        none, every, some = Places(EDITION), all_of(EDITION), made(1, 2, 26)
        for one in (none, every, some):
            self.assertEqual((one.joined(none), one.met(every), one.without(none), one.apart(none)), (one,) * 4)
            self.assertEqual((one.met(none), one.without(every), one.without(one), one.apart(one)), (none,) * 4)
            self.assertEqual((one.joined(every), one.joined(one.rest())), (every, every))
            self.assertEqual((one.rest().rest(), one.apart(every)), (one, one.rest()))
            self.assertIs(none.within(one), True)
            self.assertIs(one.within(every), True)
            self.assertIs(one.within(one), True)
        self.assertEqual((none.rest(), every.rest()), (every, none))
        self.assertIs(every.within(some), False)
        self.assertIs(some.within(none), False)
        self.assertIs(some.within(made(1, 26, 3)), False)
        self.assertIs(made(1, 26).within(some), True)

    def test_new_places_of_this_edition(self):
        one, other = made(1, 2, 9), Places(Edition(MIXED), [(2, 5)])
        for told in (one.joined(other), one.met(other), one.without(other), one.apart(other), one.rest()):
            self.assertIs(type(told), Places)
            self.assertTrue(told.edition().same(EDITION))
        self.assertEqual((one.numbers(), other.numbers()), ([1, 2, 9], [2, 3, 4, 5]))

    def test_no_other_places(self):
        one = made(1, 2)
        for other in NO_PLACES:
            for deed in (one.joined, one.met, one.without, one.apart, one.within, Places(EDITION).within):
                refused(self, NoPlaces, {"found": other}, deed, other)

    def test_no_places_of_another_edition_though_they_are_none(self):
        for other in OTHERS:
            for deed in (made(1).joined, made(1).within, Places(EDITION).met):
                none = Places(other)
                refused(self, NoPlaces, {"found": none}, deed, none)


class Words(unittest.TestCase):
    def test_no_deed(self):
        one = made(1)
        for deed in NO_NUMBERS + ("", "joined", "Join", "join ", "met", "without", "rest", "within", ["join"], ("join",),
                                  {"join": 1}, one, EDITION):
            refused(self, NoDeed, {"found": deed}, combined, deed, one, one)
            refused(self, NoDeed, {"found": deed}, combined, deed, None, None)

    def test_no_places(self):
        one = made(1)
        for word in DEEDS:
            for thing in NO_PLACES[:-3]:
                refused(self, NoPlaces, {"found": thing}, combined, word, thing, one)
                refused(self, NoPlaces, {"found": thing}, combined, word, thing, "no places")
            for thing in NO_PLACES:
                refused(self, NoPlaces, {"found": thing}, combined, word, one, thing)

    def test_by_the_edition_of_the_first(self):
        other = Places(OTHERS[0], [(0, 1)])
        one = made(1)
        self.assertEqual(combined("join", other, Places(OTHERS[0], [(3, 3)])).runs(), [(0, 1), (3, 3)])
        refused(self, NoPlaces, {"found": one}, combined, "join", other, one)


class AllAndSpots(unittest.TestCase):
    def test_all(self):
        for books in ALL_BOOKS:
            places = all_of(Edition(books))
            self.assertEqual(places.runs(), [(0, sizes(books) - 1)])
            self.assertIs(type(places), Places)

    def test_all_spots(self):
        for books in ALL_BOOKS[:2]:
            edition = Edition(books)
            places = spots_of_four(books)
            for spot in dict.fromkeys(place[:many] for place in places for many in (1, 2, 3, 4)):
                parts = [n for n, place in enumerate(places) if place[:len(spot)] == spot]
                self.assertEqual(spot_places(edition, spot).numbers(), parts)

    def test_no_edition(self):
        for thing in (None, True, 0, "", MIXED, [], {}, all_of(EDITION)):
            refused(self, NoEdition, {"found": thing}, all_of, thing)
            refused(self, NoEdition, {"found": thing}, spot_places, thing, "no spot")
            refused(self, NoEdition, {"found": thing}, numbered, thing, "no numbers")
            refused(self, NoEdition, {"found": thing}, united, thing, "no places")

    def test_spots_that_are_not_there(self):
        for kind, found, spot in (
            (NoBook, "x", ("x", 1)), (NoChapter, 3, ("gen", 3)), (NoVerse, 9, ("gen", 1, 9, 9)), (NoPart, 2, ("ex", 1, 1, 2)),
        ):
            refused(self, kind, {"found": found}, spot_places, EDITION, spot)
        for spot in (None, "gen", (), ["gen"], ("gen", 1, 1, 1, 1)):
            refused(self, NoSpot, {"found": spot}, spot_places, EDITION, spot)


class Numbered(unittest.TestCase):
    def test_any_order_some_more_than_once_none(self):
        for numbers, held in (
            ([], []), ((), []), ([5], [5]), ([5, 3, 4], [3, 4, 5]), ((5, 5, 5), [5]), ([26, 0, 26, 0, 13], [0, 13, 26]),
        ):
            self.assertEqual(numbered(EDITION, numbers).numbers(), held)

    def test_handed_in_and_changed_afterwards(self):
        numbers = [5, 3]
        places = numbered(EDITION, numbers)
        numbers.append(9)
        self.assertEqual((places.numbers(), numbers), ([3, 5], [5, 3, 9]))

    def test_five_hundred_and_one_more(self):
        edition = Edition(FULL)
        numbers = [number * 7 % 400 for number in range(500)]
        self.assertEqual(numbered(edition, numbers), all_of(edition))
        self.assertEqual(numbered(edition, tuple(numbers)), all_of(edition))
        for more in (numbers + [0], tuple(numbers + [0]), ["x"] * 501):
            refused(self, NoPlaces, {"found": more}, numbered, edition, more)

    def test_no_row_of_numbers(self):
        for numbers in (None, True, 0, 5, "", "12", {}, {1: 2}, EDITION, all_of(EDITION)):
            refused(self, NoPlaces, {"found": numbers}, numbered, EDITION, numbers)

    def test_no_numbers(self):
        for number in NO_NUMBERS + (-1, SIZE, 10 ** 29, -10 ** 29):
            refused(self, NoNumber, {"found": number}, numbered, EDITION, [3, number, -5])
            refused(self, NoNumber, {"found": number}, numbered, EDITION, (number,))


class United(unittest.TestCase):
    def test_some_one_none(self):
        self.assertEqual(united(EDITION, []).runs(), [])
        self.assertEqual(united(EDITION, ()).runs(), [])
        self.assertEqual(united(EDITION, [made(3, 4)]).runs(), [(3, 4)])
        some = [made(9, 12), Places(EDITION), made(3, 4), Places(Edition(MIXED), [(4, 5), (26, 26)]), made(3)]
        self.assertEqual(united(EDITION, some).runs(), [(3, 5), (9, 9), (12, 12), (26, 26)])
        self.assertEqual(united(EDITION, tuple(some)).runs(), [(3, 5), (9, 9), (12, 12), (26, 26)])

    def test_five_hundred_and_one_more(self):
        edition = Edition(FULL)
        every_second = [numbered(edition, range_of) for range_of in ([*range(0, 400, 2)], [*range(1, 400, 2)])]
        self.assertEqual(united(edition, every_second * 250), all_of(edition))
        single = [numbered(edition, [k]) for k in range(400)]
        self.assertEqual(united(edition, single + single[:100]).runs(), [(0, 399)])
        for more in (single + single[:101], tuple(single + single[:101]), [None] * 501):
            refused(self, NoPlaces, {"found": more}, united, edition, more)

    def test_no_row_of_places(self):
        for some in (None, True, 0, "", "ab", {}, EDITION, all_of(EDITION)):
            refused(self, NoPlaces, {"found": some}, united, EDITION, some)

    def test_no_places_of_this_edition(self):
        for member in NO_PLACES:
            refused(self, NoPlaces, {"found": member}, united, EDITION, [made(1), member, "x"])
            refused(self, NoPlaces, {"found": member}, united, EDITION, (member,))


if __name__ == "__main__":
    unittest.main()
