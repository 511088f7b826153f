"""Points 60 to 64: leadings from one edition to another."""

import random
import unittest

from bookplaces.editions import Edition
from bookplaces.errors import NoBook, NoChapter, NoEdition, NoNumber, NoPlaces, NoVerse
from bookplaces.leading import Leading
from bookplaces.places import Places, all_of, numbered
from bookplaces.reading import read
from tests.checks import FULL, LONG, MIXED, NO_NUMBERS, SMALL, refused, sets_of, sizes, spots_of_four
from tests.leadings import ONE, OTHER, random_edition

EDITION = Edition(MIXED)
SIZE = sizes(MIXED)
NO_EDITIONS = (None, True, 0, "", "gen", (), [], {}, MIXED, all_of(EDITION), Leading(EDITION, EDITION))
EDITION_FAR = Edition(MIXED, [(100, SIZE)])

def one_chapter(*verses):
    """An edition of one chapter, of which each verse has these lines."""
    pairs = [(line, 1) for lines in verses for line in lines]
    return Edition([("x", [[len(lines) for lines in verses]])], pairs)


class Goals(unittest.TestCase):
    def test_of_small_editions(self):
        leading = Leading(ONE, OTHER)
        self.assertEqual([leading.goes_to(n) for n in range(10)], [3, 4, None, None, 7, 8, 9, 0, 1, 2])
        self.assertEqual([leading.comes_from(n) for n in range(10)], [7, 8, 9, 0, 1, None, None, 4, 5, 6])

    def test_to_itself(self):
        for books in (MIXED, FULL, SMALL):
            leading = Leading(Edition(books), Edition(books))
            size = sizes(books)
            self.assertEqual([leading.goes_to(n) for n in range(size)], list(range(size)))
            self.assertEqual([leading.comes_from(n) for n in range(size)], list(range(size)))

    def test_no_line_in_common(self):
        leading = Leading(EDITION, Edition(MIXED, [(100, SIZE)]))
        for number in range(SIZE):
            self.assertIsNone(leading.goes_to(number))
            self.assertIsNone(leading.comes_from(number))

    def test_line_by_line(self):
        chance = random.Random(60)
        for _ in range(100):
            one, other = random_edition(chance, 40), random_edition(chance, 40)
            leading = Leading(one, other)
            for some, others, ask in ((one, other, leading.goes_to), (other, one, leading.comes_from)):
                for number, line in enumerate(some.lines()):
                    found = [n for n, other_line in enumerate(others.lines()) if other_line == line]
                    self.assertEqual(ask(number), found[0] if found else None)

    def test_no_number(self):
        small = Edition(SMALL)
        for leading, size, ask in (
            (Leading(EDITION, small), SIZE, "goes_to"), (Leading(EDITION, small), 1, "comes_from"),
            (Leading(small, EDITION), 1, "goes_to"), (Leading(small, EDITION), SIZE, "comes_from"),
        ):
            deed = {"goes_to": leading.goes_to, "comes_from": leading.comes_from}[ask]
            self.assertEqual((deed(0), deed(size - 1)), (0, 0 if size == 1 else None))
            for number in NO_NUMBERS + (-1, size, 10 ** 29, -10 ** 29, "0"):
                refused(self, NoNumber, {"found": number}, deed, number)

    def test_no_edition(self):
        for thing in NO_EDITIONS:
            refused(self, NoEdition, {"found": thing}, Leading, thing, EDITION)
            refused(self, NoEdition, {"found": thing}, Leading, EDITION, thing)
            refused(self, NoEdition, {"found": thing}, Leading, thing, "none either")


class Rows(unittest.TestCase):
    def test_of_small_editions(self):
        self.assertEqual(Leading(ONE, OTHER).rows(), [(0, 3, 2), (2, None, 2), (4, 7, 3), (7, 0, 3)])
        self.assertEqual(Leading(OTHER, ONE).rows(), [(0, 7, 3), (3, 0, 2), (5, None, 2), (7, 4, 3)])

    def test_to_itself_and_to_none(self):
        for books in (MIXED, FULL, LONG, SMALL):
            size = sizes(books)
            self.assertEqual(Leading(Edition(books), Edition(books)).rows(), [(0, 0, size)])
            self.assertEqual(Leading(Edition(books), Edition(books, [(5000, size)])).rows(), [(0, None, size)])

    def test_over_verses_chapters_and_books(self):
        self.assertEqual(Leading(EDITION, Edition([("x", [[3] * 9])])).rows(), [(0, 0, 27)])
        self.assertEqual(Leading(EDITION, Edition([("x", [[3] * 9])], [(9, 18), (0, 9)])).rows(), [(0, 18, 9), (9, 0, 18)])

    def test_gaps_on_either_side(self):
        for lines, rows in (
            ([0, 1, 9, 2, 3], [(0, 0, 2), (2, 3, 2)]), ([0, 1, 3, 2], [(0, 0, 2), (2, 3, 1), (3, 2, 1)]),
            ([0, 1, 3], [(0, 0, 2), (2, None, 1), (3, 2, 1)]), ([3, 2, 1, 0], [(0, 3, 1), (1, 2, 1), (2, 1, 1), (3, 0, 1)]),
            ([9, 8, 7], [(0, None, 4)]), ([3, 9], [(0, None, 3), (3, 0, 1)]), ([0, 9], [(0, 0, 1), (1, None, 3)]),
            ([0, 2], [(0, 0, 1), (1, None, 1), (2, 1, 1), (3, None, 1)]),
        ):
            self.assertEqual(Leading(one_chapter([0, 1, 2], [3]), one_chapter(*[[line] for line in lines])).rows(), rows)

    def test_true_and_the_fewest(self):
        chance = random.Random(61)
        for _ in range(200):
            leading = Leading(random_edition(chance, 30), random_edition(chance, 30))
            one, _ = leading.editions()
            rows = leading.rows()
            self.assertEqual([n for first, _, many in rows for n in range(first, first + many)], list(range(one.size())))
            for first, at, many in rows:
                for k in range(many):
                    self.assertEqual(leading.goes_to(first + k), None if at is None else at + k)
            for (_, at, many), (_, next_at, _) in zip(rows, rows[1:]):
                self.assertFalse(at is None and next_at is None)
                self.assertFalse(at is not None and next_at == at + many)
            self.assertEqual(len(leading), len(rows))

    def test_told_and_changed_afterwards(self):
        leading = Leading(ONE, OTHER)
        told = leading.rows()
        told.append(None)
        told[0] = None
        self.assertEqual(leading.rows(), [(0, 3, 2), (2, None, 2), (4, 7, 3), (7, 0, 3)])
        self.assertEqual((type(told), {type(row) for row in leading.rows()}), (list, {tuple}))
        self.assertEqual({type(n) for row in leading.rows() for n in row}, {int, type(None)})


class OverAndBack(unittest.TestCase):
    def test_of_small_editions(self):
        leading = Leading(ONE, OTHER)
        for pairs, led in (
            ([], []), ([(0, 9)], [(0, 4), (7, 9)]), ([(2, 3)], []), ([(1, 4)], [(4, 4), (7, 7)]), ([(6, 7)], [(0, 0), (9, 9)]),
        ):
            self.assertEqual(leading.over(Places(ONE, pairs)).runs(), led)
        for pairs, led in (([], []), ([(0, 9)], [(0, 1), (4, 9)]), ([(5, 6)], []), ([(2, 5)], [(0, 1), (9, 9)])):
            self.assertEqual(leading.back(Places(OTHER, pairs)).runs(), led)

    def test_lacking(self):
        leading = Leading(ONE, OTHER)
        self.assertEqual((leading.lacking(), leading.lacking_back()), (Places(ONE, [(2, 3)]), Places(OTHER, [(5, 6)])))
        to_itself = Leading(ONE, ONE)
        self.assertEqual((to_itself.lacking(), to_itself.lacking_back()), (Places(ONE), Places(ONE)))
        to_none = Leading(ONE, EDITION_FAR)
        self.assertEqual((to_none.lacking(), to_none.lacking_back()), (all_of(ONE), all_of(EDITION_FAR)))

    def test_editions_of_what_is_told(self):
        leading = Leading(ONE, OTHER)
        for places, edition in (
            (leading.over(all_of(ONE)), OTHER), (leading.back(all_of(OTHER)), ONE), (leading.lacking(), ONE),
            (leading.lacking_back(), OTHER), (leading.over(Places(ONE)), OTHER), (leading.back(Places(OTHER)), ONE),
        ):
            self.assertIs(type(places), Places)
            self.assertTrue(places.edition().same(edition))

    def test_places_of_the_same_edition_made_anew(self):
        one = Edition((("a", [[2, 1], [1, 3]]), ("b", [[3]])), [(0, 10)])
        self.assertEqual(Leading(ONE, OTHER).over(Places(one, [(0, 0)])).runs(), [(3, 3)])

    def test_there_and_back(self):
        chance = random.Random(62)
        for _ in range(100):
            one, other = random_edition(chance, 30), random_edition(chance, 30)
            leading = Leading(one, other)
            for _ in range(5):
                places = numbered(one, [n for n in range(one.size()) if chance.random() < 0.5])
                over = leading.over(places)
                lines = {one.line_at(n) for n in places.numbers()}
                self.assertEqual(over.numbers(), [n for n, line in enumerate(other.lines()) if line in lines])
                self.assertEqual(leading.over(leading.back(over)), over)
                self.assertEqual(leading.back(over), places.without(leading.lacking()))
            self.assertEqual(leading.back(all_of(other)), leading.lacking().rest())
            self.assertEqual(leading.over(all_of(one)), leading.lacking_back().rest())

    def test_all_sets(self):
        leading = Leading(ONE, OTHER)
        for held in sets_of(10):
            goals = sorted(goal for goal in map(leading.goes_to, held) if goal is not None)
            self.assertEqual(leading.over(numbered(ONE, held)).numbers(), goals)

    def test_no_places(self):
        leading = Leading(ONE, OTHER)
        for thing in NO_NUMBERS + ([(0, 0)], "0", ONE, leading, read(ONE, "a"), all_of(EDITION), Places(EDITION)):
            refused(self, NoPlaces, {"found": thing}, leading.over, thing)
            refused(self, NoPlaces, {"found": thing}, leading.back, thing)
        for places, deed in ((Places(OTHER), leading.over), (Places(ONE), leading.back), (all_of(ONE), leading.back)):
            refused(self, NoPlaces, {"found": places}, deed, places)


class Verses(unittest.TestCase):
    def test_each_kind(self):
        for others, kind, spots in (
            ([[9], [8]], "lacking", []),
            ([[9], [0, 1, 2], [8]], "alike", [2]), ([[2, 0, 1]], "alike", [1]),
            ([[0, 1, 2, 9]], "within", [1]), ([[8], [9, 2, 1, 0]], "within", [2]),
            ([[0, 1], [9]], "short", [1]), ([[8], [2]], "short", [2]), ([[2, 0]], "short", [1]),
            ([[0, 9]], "crossing", [1]), ([[8], [9, 2, 1]], "crossing", [2]),
            ([[0], [1, 2]], "split", [1, 2]), ([[0], [9], [2]], "split", [1, 3]), ([[2, 8], [1], [0]], "split", [1, 2, 3]),
            ([[1, 9], [7], [0, 8]], "split", [1, 3]),
        ):
            leading = Leading(one_chapter([0, 1, 2], [3]), one_chapter(*others))
            wanted = (kind, [("x", 1, verse) for verse in spots])
            self.assertEqual(leading.verse("x", 1, 1), wanted, others)
            self.assertEqual(leading.verses()[0], (("x", 1, 1), *wanted))

    def test_of_a_verse_of_one_part(self):
        for others, kind in (([[0]], "alike"), ([[0, 1]], "within"), ([[1]], "lacking"), ([[5], [9, 0, 1]], "within")):
            self.assertEqual(Leading(one_chapter([0]), one_chapter(*others)).verse("x", 1, 1)[0], kind)

    def test_all_verses_in_order(self):
        leading = Leading(ONE, OTHER)
        self.assertEqual(leading.verses(), [
            (("a", 1, 1), "alike", [("c", 1, 3)]), (("a", 1, 2), "lacking", []), (("a", 2, 1), "lacking", []),
            (("a", 2, 2), "split", [("d", 1, 1), ("d", 2, 1)]), (("b", 1, 1), "split", [("c", 1, 1), ("c", 1, 2)])])
        self.assertEqual(leading.turned().verses(), [
            (("c", 1, 1), "within", [("b", 1, 1)]),
            (("c", 1, 2), "within", [("b", 1, 1)]), (("c", 1, 3), "alike", [("a", 1, 1)]),
            (("d", 1, 1), "crossing", [("a", 2, 2)]), (("d", 2, 1), "within", [("a", 2, 2)])])

    def test_to_itself(self):
        for books in (MIXED, LONG):
            edition = Edition(books)
            verses = list(dict.fromkeys(place[:3] for place in spots_of_four(books)))
            self.assertEqual(Leading(edition, Edition(books)).verses(), [(verse, "alike", [verse]) for verse in verses])
            self.assertEqual(Leading(edition, edition).verse(*verses[-1]), ("alike", [verses[-1]]))

    def test_as_told_by_sets_of_lines(self):
        chance = random.Random(63)
        kinds = set()
        for _ in range(200):
            one, other = random_edition(chance, 24), random_edition(chance, 24)
            lines = [{}, {}]
            for table, edition in zip(lines, (one, other)):
                for number, line in enumerate(edition.lines()):
                    table.setdefault(edition.verse_of(number), set()).add(line)
            wanted = []
            for spot, mine in lines[0].items():
                spots = [found for found, theirs in lines[1].items() if mine & theirs]
                theirs = lines[1][spots[0]] if spots else set()
                kind = ("lacking" if not spots else "split" if len(spots) > 1 else "alike" if mine == theirs
                        else "within" if mine < theirs else "short" if theirs < mine else "crossing")
                wanted.append((spot, kind, spots))
                kinds.add(kind)
            leading = Leading(one, other)
            self.assertEqual(leading.verses(), wanted)
            self.assertEqual([(spot, *leading.verse(*spot)) for spot, _, _ in wanted], wanted)
        self.assertEqual(kinds, {"lacking", "split", "alike", "within", "short", "crossing"})

    def test_told_and_changed_afterwards(self):
        leading = Leading(ONE, ONE)
        leading.verse("a", 1, 1)[1].append(None)
        told = leading.verses()
        told[0][2].append(None)
        told.append(None)
        self.assertEqual(leading.verse("a", 1, 1), ("alike", [("a", 1, 1)]))
        self.assertEqual(leading.verses()[0], (("a", 1, 1), "alike", [("a", 1, 1)]))
        self.assertEqual(len(leading.verses()), 5)

    def test_refused_as_by_the_one_s_parts(self):
        leading = Leading(ONE, OTHER)
        for name in (None, True, 0, "", "c", "d", "A", [], {}, ("a",), ONE):
            refused(self, NoBook, {"found": name}, leading.verse, name, 9, 9)
        for chapter in NO_NUMBERS + (0, -1, 3, 10 ** 29):
            refused(self, NoChapter, {"found": chapter}, leading.verse, "a", chapter, 9)
        for verse in NO_NUMBERS + (0, -1, 3, 10 ** 29):
            refused(self, NoVerse, {"found": verse}, leading.verse, "a", 1, verse)
        refused(self, NoVerse, {"found": 2}, leading.verse, "b", 1, 2)


class TurnedEqualText(unittest.TestCase):
    def test_turned(self):
        turned = Leading(ONE, OTHER).turned()
        self.assertIs(type(turned), Leading)
        self.assertTrue(turned == Leading(OTHER, ONE))
        self.assertTrue(turned.turned() == Leading(ONE, OTHER))
        self.assertEqual(turned.rows(), Leading(OTHER, ONE).rows())

    def test_editions(self):
        editions = Leading(ONE, OTHER).editions()
        self.assertIs(type(editions), tuple)
        self.assertEqual([type(edition) for edition in editions], [Edition, Edition])
        self.assertEqual([edition.same(one) for edition, one in zip(editions, (ONE, OTHER))], [True, True])

    def test_len(self):
        for leading, many in ((Leading(ONE, OTHER), 4), (Leading(ONE, ONE), 1), (Leading(ONE, EDITION_FAR), 1)):
            self.assertEqual(len(leading), many)

    def test_equal(self):
        anew = Edition((("a", [[2, 1], [1, 3]]), ("b", [[3]])), [(0, 4), (4, 6)])
        leading = Leading(ONE, OTHER)
        self.assertIs(leading == Leading(anew, OTHER), True)
        self.assertIs(leading != Leading(anew, OTHER), False)
        other_names = Edition((("a", [[2, 1], [1, 3]]), ("c", [[3]])))
        for unlike in (Leading(OTHER, ONE), Leading(ONE, ONE), Leading(OTHER, OTHER), Leading(other_names, OTHER),
                       Leading(ONE, EDITION), None, True, 0, "", [], leading.rows(), str(leading), ONE, (ONE, OTHER),
                       leading.editions(), all_of(ONE), {}):
            self.assertIs(leading == unlike, False)
            self.assertIs(leading != unlike, True)
            self.assertIs(unlike == leading, False)

    def test_text(self):
        for one, other, text in (
            (ONE, OTHER, "0-1>3-4 2-3>none 4-6>7-9 7-9>0-2"), (OTHER, ONE, "0-2>7-9 3-4>0-1 5-6>none 7-9>4-6"),
            (ONE, ONE, "0-9>0-9"), (ONE, EDITION_FAR, "0-9>none"), (one_chapter([0]), one_chapter([0]), "0>0"),
            (one_chapter([0]), one_chapter([1]), "0>none"), (one_chapter([0, 1, 2], [3]), one_chapter([3, 0]), "0>1 1-2>none 3>0"),
            (one_chapter([5, 6, 7, 8], [9, 10, 11]), one_chapter([5, 6, 7], [9, 10, 11]), "0-2>0-2 3>none 4-6>3-5"),
        ):
            self.assertEqual(str(Leading(one, other)), text)
            self.assertEqual(f"{Leading(one, other)}", text)


if __name__ == "__main__":
    unittest.main()
