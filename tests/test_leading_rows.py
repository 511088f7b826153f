"""Points 65 and 66: rows that are shown, and ways through two leadings."""

import random
import unittest

from bookplaces.editions import Edition
from bookplaces.errors import NoEdition, NoLeading, NoPlaces
from bookplaces.leading import Leading, rows_through, shows_rows, through
from bookplaces.places import Places, all_of, numbered
from tests.checks import FULL, MIXED, NO_NUMBERS, refused, sizes
from tests.leadings import ONE, OTHER, random_edition

FULL_EDITION = Edition(FULL)
ROWS = [(0, 3, 2), (2, None, 2), (4, 7, 3), (7, 0, 3)]
THIRD = Edition((("e", ((4,), (4,))),), [(9, 1), (20, 1), (4, 2), (0, 1), (30, 1), (7, 2)])


class ShowsRows(unittest.TestCase):
    def test_true_rows(self):
        self.assertIs(shows_rows(ONE, OTHER, ROWS), True)
        self.assertIs(shows_rows(ONE, ONE, [(0, 0, 10)]), True)
        self.assertIs(shows_rows(ONE, FULL_EDITION, Leading(ONE, FULL_EDITION).rows()), True)
        chance = random.Random(65)
        for _ in range(50):
            one, other = random_edition(chance, 30), random_edition(chance, 30)
            self.assertIs(shows_rows(one, other, Leading(one, other).rows()), True)

    def test_one_number_changed(self):
        for k, row in enumerate(ROWS):
            for at, number in enumerate(row):
                for other in (None, -1, 0, 1, 2, 3, 4, 7, 9, 10, 10 ** 29, "", "3", (3,), [3], {}, ONE):
                    changed = ROWS[:k] + [row[:at] + (other,) + row[at + 1:]] + ROWS[k + 1:]
                    self.assertIs(shows_rows(ONE, OTHER, changed), other == number, changed)

    def test_true_and_false_are_no_numbers(self):
        tiny, two = Edition([("a", [[1]])]), Edition([("a", [[2]])], [(1, 1), (0, 1)])
        self.assertIs(shows_rows(tiny, tiny, [(0, 0, 1)]), True)
        for rows in ([(0, 0, True)], [(False, 0, 1)], [(0, False, 1)], [(False, False, True)]):
            self.assertIs(shows_rows(tiny, tiny, rows), False)
        self.assertIs(shows_rows(tiny, two, [(0, 1, 1)]), True)
        self.assertIs(shows_rows(tiny, two, [(0, True, 1)]), False)
        self.assertIs(shows_rows(ONE, OTHER, [(False, 3, 2)] + ROWS[1:]), False)
        self.assertIs(shows_rows(ONE, OTHER, ROWS[:3] + [(7, False, 3)]), False)

    def test_more_fewer_and_others(self):
        for rows in (ROWS[:-1], ROWS[1:], ROWS + [(10, None, 1)], ROWS + [None], [], ROWS[::-1], ROWS + ROWS[-1:],
                     [(0, 3, 1), (1, 4, 1)] + ROWS[1:], ROWS[:1] + [(2, None, 1), (3, None, 1)] + ROWS[2:], [ROWS]):
            self.assertIs(shows_rows(ONE, OTHER, rows), False)

    def test_no_list_of_tuples(self):
        for thing in NO_NUMBERS + (0, 3, "0-1>3-4", tuple(ROWS), [list(row) for row in ROWS], {row: True for row in ROWS},
                                   Leading(ONE, OTHER), [row + (None,) for row in ROWS], [row[:2] for row in ROWS],
                                   [list(ROWS[0])] + ROWS[1:], ["", "", "", ""]):
            self.assertIs(shows_rows(ONE, OTHER, thing), False)

    def test_what_is_handed_in_is_not_changed(self):
        rows = list(ROWS)
        shows_rows(ONE, OTHER, rows)
        self.assertEqual(rows, ROWS)

    def test_no_edition(self):
        for thing in (None, True, 0, "", MIXED, [], {}, all_of(ONE), Leading(ONE, OTHER)):
            refused(self, NoEdition, {"found": thing}, shows_rows, thing, None, None)
            refused(self, NoEdition, {"found": thing}, shows_rows, ONE, thing, None)


class Through(unittest.TestCase):
    def setUp(self):
        self.first, self.second = Leading(ONE, OTHER), Leading(OTHER, THIRD)

    def test_of_small_editions(self):
        for pairs, runs in (([], []), ([(0, 9)], [(0, 0), (2, 4), (6, 7)]), ([(0, 0), (5, 5)], [(3, 4)]), ([(1, 3)], []),
                            ([(6, 8)], [(6, 7)])):
            told = through(self.first, self.second, Places(ONE, pairs))
            self.assertEqual(told.runs(), runs)
            self.assertTrue(told.edition().same(THIRD))
        self.assertEqual(rows_through(self.first, self.second),
                         [(0, 4, 1), (1, None, 3), (4, 2, 2), (6, None, 1), (7, 6, 2), (9, 0, 1)])

    def test_rows_are_as_those_of_a_leading(self):
        self.assertEqual(rows_through(self.first, Leading(OTHER, OTHER)), self.first.rows())
        self.assertEqual(rows_through(Leading(ONE, ONE), self.first), self.first.rows())
        self.assertEqual(rows_through(self.first, self.first.turned()), [(0, 0, 2), (2, None, 2), (4, 4, 6)])
        self.assertEqual(rows_through(self.first, Leading(OTHER, Edition(MIXED, [(500, sizes(MIXED))]))), [(0, None, 10)])

    def test_nothing_beyond_the_straight_leading(self):
        chance = random.Random(66)
        for _ in range(150):
            one, amid, last = [random_edition(chance, 30) for _ in range(3)]
            first, second, straight = Leading(one, amid), Leading(amid, last), Leading(one, last)
            goals = []
            for number in range(one.size()):
                line = one.line_at(number)
                goals.append(last.part_of(line) if amid.part_of(line) is not None else None)
            rows = rows_through(first, second)
            self.assertEqual([(None if at is None else at + k) for _, at, many in rows for k in range(many)], goals)
            self.assertEqual([n for begin, _, many in rows for n in range(begin, begin + many)], list(range(one.size())))
            for (_, at, many), (_, next_at, _) in zip(rows, rows[1:]):
                self.assertFalse(at is None and next_at is None)
                self.assertFalse(at is not None and next_at == at + many)
            places = numbered(one, [n for n in range(one.size()) if chance.random() < 0.6])
            told = through(first, second, places)
            self.assertEqual(told.numbers(), sorted(goals[n] for n in places.numbers() if goals[n] is not None))
            self.assertEqual(told, second.over(first.over(places)))
            lacking = straight.over(first.lacking())
            self.assertEqual(told, straight.over(places).without(lacking))

    def test_the_edition_amid_made_anew(self):
        anew = Edition((("c", [[1, 2, 2]]), ("d", [[4], [1]])), [(7, 3), (0, 2), (20, 2), (4, 3)])
        self.assertEqual(rows_through(self.first, Leading(anew, THIRD)), rows_through(self.first, self.second))

    def test_told_and_changed_afterwards(self):
        told = rows_through(self.first, self.second)
        told.append(None)
        self.assertEqual(len(rows_through(self.first, self.second)), 6)

    def test_no_first(self):
        for thing in NO_NUMBERS + (0, ONE, (ONE, OTHER), [], all_of(ONE), self.first.rows()):
            refused(self, NoLeading, {"found": thing}, through, thing, self.second, all_of(ONE))
            refused(self, NoLeading, {"found": thing}, through, thing, None, None)
            refused(self, NoLeading, {"found": thing}, rows_through, thing, self.second)
            refused(self, NoLeading, {"found": thing}, rows_through, thing, None)

    def test_no_second(self):
        for thing in NO_NUMBERS + (0, OTHER, (OTHER, THIRD), [], all_of(OTHER), self.first, Leading(THIRD, OTHER),
                                   Leading(ONE, THIRD)):
            refused(self, NoLeading, {"found": thing}, through, self.first, thing, all_of(ONE))
            refused(self, NoLeading, {"found": thing}, through, self.first, thing, None)
            refused(self, NoLeading, {"found": thing}, rows_through, self.first, thing)

    def test_no_places(self):
        for thing in NO_NUMBERS + (0, ONE, [(0, 1)], "0", self.first, all_of(OTHER), all_of(THIRD), Places(OTHER)):
            refused(self, NoPlaces, {"found": thing}, through, self.first, self.second, thing)


if __name__ == "__main__":
    unittest.main()
