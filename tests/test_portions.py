"""Points 90 to 94: places parted by verses."""

import itertools
import random
import unittest

from bookplaces.editions import Edition
from bookplaces.errors import NoNumber, NoPlaces
from bookplaces.leading import Leading
from bookplaces.places import Places, all_of, numbered, spot_places
from bookplaces.portions import greatest, is_parting, portion_of, portions
from tests.checks import FULL, LONG, MIXED, NO_NUMBERS, SMALL, refused, sets_of

EDITION = Edition(MIXED)
ANEW = Edition([(name, [list(verses) for verses in chapters]) for name, chapters in MIXED])
OTHER = Edition(MIXED, [(100, 27)])
# Verses of two, one and three parts, one of one in another chapter, and one of two in another book.
TINY = Edition([("a", [[2, 1, 3], [1]]), ("b", [[2]])])


def by_verses(places):
    """What the places have of each verse, in order, counted plainly."""
    edition, found = places.edition(), {}
    for number in places.numbers():
        found.setdefault(edition.place(number)[:3], []).append(number)
    return list(found.values())


def all_partings(rows, many):
    """All ways of cutting rows into so many portions, empty ones too, each as lists of numbers."""
    for cuts in itertools.combinations_with_replacement(range(len(rows) + 1), many - 1):
        ends = (0, *cuts, len(rows))
        yield [[n for row in rows[low:high] for n in row] for low, high in zip(ends, ends[1:])]


def is_parting_plainly(places, members):
    """The words of 90, one by one."""
    edition, held = places.edition(), [member.numbers() for member in members]
    if sorted(n for numbers in held for n in numbers) != places.numbers():
        return False
    verses = [{edition.verse_of(n) for n in numbers} for numbers in held]
    for one, other in itertools.combinations(range(len(held)), 2):
        if verses[one] & verses[other]:
            return False
        if held[one] and held[other] and not max(held[one]) < min(held[other]):
            return False
    return True


def numbers_of(some):
    return [places.numbers() for places in some]


class GreatestAndPortions(unittest.TestCase):
    def test_written_by_hand(self):
        whole = all_of(TINY)
        for places, many, most, told in (
            (whole, 1, 9, [list(range(9))]), (whole, 2, 6, [[0, 1, 2, 3, 4, 5], [6, 7, 8]]),
            (whole, 3, 3, [[0, 1, 2], [3, 4, 5], [6, 7, 8]]), (whole, 4, 3, [[0, 1, 2], [3, 4, 5], [6, 7, 8], []]),
            (whole, 60, 3, [[0, 1, 2], [3, 4, 5], [6, 7, 8]] + [[]] * 57),
            (Places(TINY, [(1, 4)]), 2, 2, [[1, 2], [3, 4]]), (Places(TINY, [(1, 4)]), 3, 2, [[1, 2], [3, 4], []]),
            (Places(TINY, [(0, 0), (8, 8)]), 1, 2, [[0, 8]]), (Places(TINY, [(0, 0), (8, 8)]), 2, 1, [[0], [8]]),
            (Places(TINY, [(4, 4)]), 1, 1, [[4]]), (Places(TINY, [(4, 4)]), 3, 1, [[4], [], []]),
            (Places(TINY), 1, 0, [[]]), (Places(TINY), 60, 0, [[]] * 60),
        ):
            self.assertEqual(greatest(places, many), most)
            self.assertEqual(numbers_of(portions(places, many)), told)

    def test_the_first_ones_take_as_many_as_go(self):
        # Four verses of one part into three: two, two and none, not two, one and one.
        edition = Edition([("a", [[1, 1, 1, 1]])])
        self.assertEqual(numbers_of(portions(all_of(edition), 3)), [[0, 1], [2, 3], []])
        edition = Edition([("a", [[1, 3, 1, 1, 1]])])
        self.assertEqual(numbers_of(portions(all_of(edition), 3)), [[0], [1, 2, 3], [4, 5, 6]])

    def test_the_kinds(self):
        for places in (Places(EDITION), all_of(EDITION), Places(ANEW, [(3, 9)])):
            told = portions(places, 5)
            self.assertEqual((type(told), [type(portion) for portion in told]), (list, [Places] * 5))
            self.assertTrue(all(portion.edition().same(EDITION) for portion in told))
            self.assertIs(type(greatest(places, 5)), int)

    def test_over_all_partings_of_small_places(self):
        for held in sets_of(TINY.size()):
            places = numbered(TINY, held)
            rows = by_verses(places)
            for many in (1, 2, 3, 4, 6):
                partings = list(all_partings(rows, many))
                least = min(max(len(portion) for portion in parting) for parting in partings)
                self.assertEqual(greatest(places, many), least, (held, many))
                fitting = [parting for parting in partings if max(len(portion) for portion in parting) <= least]
                # From the first portion on as many verses as go: the greatest counts as Python compares lists.
                wanted = max(fitting, key=lambda parting: [len(portion) for portion in parting])
                self.assertEqual(numbers_of(portions(places, many)), wanted)

    def test_of_the_most_parts(self):
        chance = random.Random(92)
        for edition in (Edition(FULL), Edition(LONG), EDITION):
            for places in (all_of(edition), Places(edition), Places(edition, [(0, 0)]),
                           numbered(edition, [n for n in range(edition.size()) if chance.random() < 0.5])):
                sizes = [len(row) for row in by_verses(places)]
                for many in (1, 2, 7, 59, 60):
                    most, told = greatest(places, many), portions(places, many)
                    self.assertEqual(len(told), many)
                    self.assertTrue(is_parting_plainly(places, told))
                    self.assertEqual(max(len(portion) for portion in told), most)
                    self.assertEqual(most, least_plainly(sizes, many))
                    for portion, behind in zip(told, told[1:]):
                        share = by_verses(behind)[:1]
                        self.assertTrue(not share or len(portion) + len(share[0]) > most)

    def test_by_place_and_by_name(self):
        places = all_of(TINY)
        self.assertEqual(greatest(places, many=3), 3)
        self.assertEqual(portions(places, many=3), portions(places, 3))
        self.assertEqual(portion_of(places, many=3, number=4), 1)
        self.assertEqual(portion_of(places, 3, number=4), 1)

    def test_refused(self):
        for deed in (greatest, portions, lambda places, many: portion_of(places, many, None)):
            for thing in NO_NUMBERS + (0, [(0, 5)], "a", EDITION, [all_of(EDITION)], Leading(EDITION, EDITION)):
                refused(self, NoPlaces, {"found": thing}, deed, thing, None)
            for places in (all_of(EDITION), Places(EDITION)):
                for many in NO_NUMBERS + (0, -1, 61, 10 ** 29, -10 ** 29, "2"):
                    refused(self, NoNumber, {"found": many}, deed, places, many)

    def test_told_and_changed_afterwards(self):
        places = all_of(TINY)
        told = portions(places, 3)
        told.pop()
        self.assertEqual(len(portions(places, 3)), 3)


def least_plainly(sizes, many):
    """The least room, tried one by one."""
    for room in itertools.count(max(sizes, default=0)):
        rows, left = 0, 0
        for size in sizes:
            if rows == 0 or size > left:
                rows, left = rows + 1, room
            left -= size
        if rows <= many:
            return room


class Parting(unittest.TestCase):
    def test_lists_and_tuples(self):
        places = all_of(TINY)
        for cuts in ((3, 6), (), (2,), (2, 3, 6, 7), (0, 0, 7), (9,), (6, 6, 9, 9)):
            ends = (0, *cuts, 9)
            members = [numbered(TINY, list(range(low, high))) for low, high in zip(ends, ends[1:])]
            self.assertIs(is_parting(places, members), True)
            self.assertIs(is_parting(places, tuple(members)), True)

    def test_empty_portions_anywhere(self):
        one, two, none = Places(TINY, [(0, 2)]), Places(TINY, [(3, 8)]), Places(TINY)
        for members in itertools.product((True, False), repeat=3):
            thing = [none] * members[0] + [one] + [none] * members[1] * 3 + [two] + [none] * members[2]
            self.assertIs(is_parting(all_of(TINY), thing), True)
        self.assertIs(is_parting(all_of(TINY), [one, two] + [none] * 498), True)

    def test_of_no_parts(self):
        for thing, wanted in (
            ([], True), ((), True), ([Places(TINY)], True), ((Places(TINY),) * 9, True),
            ([Places(TINY, [(0, 0)])], False),
            (None, False), ({}, False), ("", False), (Places(TINY), False), ([None], False), ([[]], False),
            ([()], False),
        ):
            self.assertIs(is_parting(Places(TINY), thing), wanted)
        self.assertIs(is_parting(all_of(TINY), []), False)
        self.assertIs(is_parting(all_of(TINY), ()), False)

    def test_nearly_one(self):
        places = all_of(TINY)
        a, b, c = Places(TINY, [(0, 2)]), Places(TINY, [(3, 5)]), Places(TINY, [(6, 8)])
        self.assertIs(is_parting(places, [a, b, c]), True)
        for thing in (
            [a, b], [b, c], [a, c], [a, b, c, c], [a, a, b, c], [a, b, Places(TINY, [(5, 8)])],
            [a, b, Places(TINY, [(6, 7)])],
            [b, a, c], [c, b, a], [a, c, b], [Places(TINY, [(0, 3)]), Places(TINY, [(4, 5)]), c],
            [Places(TINY, [(0, 0)]),
            Places(TINY, [(1, 2)]), b, c], [a, b, Places(TINY, [(6, 7)]), Places(TINY, [(8, 8)])], [a.joined(c), b],
            [Places(TINY, [(0, 1), (6, 6)]), Places(TINY, [(2, 5), (7, 8)])], [a, b, c, None], [a, b, None, c],
            [[a, b, c]],
            {0: a}, {}, None, True, 0, "", "abc", a, places, TINY, [a, b, (6, 7, 8)], [a, b, c, TINY], [[(0, 8)]],
            [0, 8],
            [Places(OTHER)], [a, b, Places(Edition(SMALL))], [a, b, c, Places(OTHER)], [list(range(9))],
        ):
            self.assertIs(is_parting(places, thing), False)

    def test_places_of_a_same_edition_made_anew(self):
        self.assertIs(is_parting(all_of(EDITION), [all_of(ANEW)]), True)
        self.assertIs(is_parting(all_of(EDITION), [all_of(OTHER)]), False)
        self.assertIs(is_parting(all_of(EDITION), portions(all_of(ANEW), 4)), True)

    def test_as_the_words_tell(self):
        chance = random.Random(93)
        found = {True: 0, False: 0}
        for _ in range(600):
            places = numbered(TINY, [n for n in range(9) if chance.random() < 0.8])
            members = list(portions(places, chance.randint(1, 4)))
            for _ in range(chance.randint(0, 2)):
                at = chance.randrange(len(members))
                number = chance.randrange(9)
                other = spot_places(TINY, TINY.place(number))
                members[at] = members[at].apart(other)
                if chance.random() < 0.5:
                    at = chance.randrange(len(members))
                    members[at] = members[at].joined(other)
            wanted = is_parting_plainly(places, members)
            found[wanted] += 1
            self.assertIs(is_parting(places, members), wanted)
        self.assertTrue(min(found.values()) > 50)

    def test_no_places(self):
        for thing in NO_NUMBERS + (0, [(0, 5)], "a", EDITION, [all_of(EDITION)]):
            refused(self, NoPlaces, {"found": thing}, is_parting, thing, [])


class PortionOf(unittest.TestCase):
    def test_each_part(self):
        for places in (all_of(TINY), Places(TINY, [(1, 4), (7, 7)]), Places(TINY, [(8, 8)]), Places(TINY),
                       all_of(EDITION)):
            for many in (1, 2, 3, 60):
                told = portions(places, many)
                for number in range(places.edition().size()):
                    found = [at for at, portion in enumerate(told) if portion.has(number)]
                    self.assertEqual(portion_of(places, many, number), found[0] if found else None)

    def test_no_part_of_the_places(self):
        for number in NO_NUMBERS + (-1, 9, 10 ** 29, 0, 5, "2"):
            self.assertIsNone(portion_of(Places(TINY, [(1, 4)]), 2, number))
        self.assertEqual([portion_of(Places(TINY, [(1, 4)]), 2, number) for number in (1, 2, 3, 4)], [0, 0, 1, 1])


if __name__ == "__main__":
    unittest.main()
