"""Points 73 and 74: changes one behind the other, and that the edition behind them leads to the first one."""

import random
import unittest

from bookplaces.changed import changed, divided, lessened, merged, renamed, reordered
from bookplaces.editions import Edition
from bookplaces.errors import NoBook, NoChapter, NoDeed, NoEdition, NoNames
from bookplaces.errors import NoNumber, NoPlaces, NoSpot, NoVerse, TooMany
from bookplaces.leading import Leading
from bookplaces.places import Places, all_of, numbered
from tests.changes import made, nested, plainly, random_deed
from tests.checks import FULL, MIXED, NO_NUMBERS, refused, refused_equal
from tests.leadings import random_edition

EDITION = Edition(MIXED, [(100, 20), (0, 7)])
BOOKS = {"gen": "a", "ex": "b", "lev": "c", "num": "d"}
ORDER = ["num", "lev", "ex", "gen"]
SPOT = ("gen", 1, 3)


class Deeds(unittest.TestCase):
    def test_none(self):
        for deeds in ([], ()):
            told = changed(EDITION, deeds)
            self.assertIs(type(told), Edition)
            self.assertTrue(told.same(EDITION))

    def test_each_word(self):
        for deed, told in (
            (("rename", BOOKS), renamed(EDITION, BOOKS)), (("reorder", ORDER), reordered(EDITION, ORDER)),
            (("reorder", tuple(ORDER)), reordered(EDITION, ORDER)), (("divide", SPOT, 1), divided(EDITION, SPOT)),
            (("divide", SPOT, 3), divided(EDITION, SPOT, 3)),
            (("merge", ("gen", 1, 1)), merged(EDITION, ("gen", 1, 1))),
            (("lessen", [0, 4, 4]), lessened(EDITION, Places(EDITION, [(0, 0), (4, 4)]))),
            (("lessen", (11,)), lessened(EDITION, Places(EDITION, [(11, 11)]))), (("lessen", []), EDITION),
            (("lessen", ()), EDITION),
        ):
            self.assertEqual(changed(EDITION, [deed]).told(), told.told())
            self.assertEqual(changed(EDITION, (deed,)).told(), told.told())

    def test_several_behind_one_another(self):
        told = changed(EDITION, [
            ("rename", BOOKS), ("divide", ("a", 1, 3), 1), ("merge", ("a", 1, 2)), ("reorder", ("b", "a", "d", "c")),
            ("lessen", [0, 1]), ("divide", ("a", 1, 3), 2), ("rename", {"a": "c", "c": "d", "d": "a"}),
        ])
        self.assertEqual(nested(told), [
            ("c", [[[101], [102, 103], [104, 105], [106]], [[107], [108, 109, 110]]]), ("a", [[[3, 4], [5], [6]]]),
            ("d", [[[112, 113, 114], [115, 116]], [[117], [118]], [[119, 0, 1, 2]]])])

    def test_numbers_of_the_edition_as_it_has_become(self):
        small = Edition([("a", [[1, 1, 1]]), ("b", [[2]])])
        for deeds, lines in (
            ([("lessen", [0]), ("lessen", [0])], [2, 3, 4]), ([("lessen", [0]), ("lessen", [3])], [1, 2, 3]),
            ([("reorder", ["b", "a"]), ("lessen", [0, 1])], [0, 1, 2]), ([("lessen", [4, 3]), ("lessen", [2])], [0, 1]),
        ):
            self.assertEqual(changed(small, deeds).lines(), lines)
        refused_equal(self, NoNumber, 4, changed, small, [("lessen", [0]), ("lessen", [4])])
        refused_equal(self, NoNumber, -1, changed, small, [("lessen", [3]), ("lessen", [2, -1, 9])])

    def test_as_told_plainly(self):
        chance = random.Random(73)
        words = set()
        for _ in range(60):
            edition = random_edition(chance, 40)
            deeds, books, now = [], nested(edition), edition
            for _ in range(chance.randint(1, 12)):
                deeds.append(random_deed(now, chance))
                words.add(deeds[-1][0])
                books = plainly(books, *deeds[-1])
                now = made(books)
            told = changed(edition, deeds)
            self.assertEqual(nested(told), books)
            self.assertEqual(told.told(), now.told())
        self.assertEqual(len(words), 5)

    def test_500_and_501(self):
        pair = [("divide", SPOT, 2), ("merge", SPOT)]
        self.assertTrue(changed(EDITION, pair * 250).same(EDITION))
        told = changed(Edition(FULL), tuple([("lessen", [0])] * 399))
        self.assertEqual(told.told(), ((("d", ((1,),)),), ((399, 1),)))
        for deeds in (pair * 250 + [pair[0]], tuple([("lessen", [])] * 501), [None] * 501):
            refused(self, NoDeed, {"found": deeds}, changed, EDITION, deeds)

    def test_what_is_handed_in_stays(self):
        before = EDITION.told()
        names, numbers, order = dict(BOOKS), [0, 26], ["a", "b", "d", "c"]
        deeds = [("rename", names), ("reorder", order), ("lessen", numbers)]
        told = changed(EDITION, deeds)
        books = told.told()
        self.assertEqual((names, order, numbers), (BOOKS, ["a", "b", "d", "c"], [0, 26]))
        self.assertEqual(deeds, [("rename", BOOKS), ("reorder", ["a", "b", "d", "c"]), ("lessen", [0, 26])])
        names.clear(), order.clear(), numbers.clear(), deeds.clear()
        self.assertEqual((told.told(), EDITION.told()), (books, before))


class Refused(unittest.TestCase):
    def test_no_edition(self):
        for thing in (None, True, 0, "", (), [], {}, MIXED, all_of(EDITION), Leading(EDITION, EDITION)):
            refused(self, NoEdition, {"found": thing}, changed, thing, None)

    def test_no_deeds(self):
        for deeds in (None, True, 0, "", "merge", {}, {"merge": SPOT}, EDITION, all_of(EDITION)):
            refused(self, NoDeed, {"found": deeds}, changed, EDITION, deeds)

    def test_no_deed_at_any_place(self):
        good = [("lessen", []), ("divide", SPOT, 1), ("merge", SPOT)]
        for deed in NO_NUMBERS + (
            0, "merge", ("merge",), ("rename",), ("reorder",), ("divide",), ("lessen",), ("divide", SPOT),
            ("merge", SPOT, 1),
            ("divide", SPOT, 1, 1), ("rename", BOOKS, BOOKS), ("lessen", [0], [1]), ("reorder", ORDER, 1),
            ["merge", SPOT],
            ["lessen", []], ("Merge", SPOT), ("merged", SPOT), ("", SPOT), (None, SPOT), (True, SPOT), (1, SPOT),
            ([], SPOT),
            (["merge"], SPOT), ({}, SPOT), (("merge",), SPOT), (EDITION, SPOT), (SPOT, "merge"), ("merge", *SPOT),
        ):
            for at in range(4):
                for deeds in (good[:at] + [deed] + good[at:], tuple(good[:at] + [deed, None])):
                    refused(self, NoDeed, {"found": deed}, changed, EDITION, deeds)

    def test_what_a_change_refuses(self):
        for deed, kind in (
            (("rename", None), NoNames), (("rename", {}), NoNames), (("rename", list(BOOKS)), NoNames),
            (("reorder", BOOKS), NoNames), (("reorder", ["gen"]), NoNames), (("reorder", 1), NoNames),
            (("divide", ("gen", 1), 1), NoSpot), (("divide", None, 1), NoSpot), (("merge", list(SPOT)), NoSpot),
        ):
            refused(self, kind, {"found": deed[1]}, changed, EDITION, [("merge", ("gen", 1, 1)), deed, None])
        for deed, kind, found in (
            (("divide", ("a", 9, 9), 9), NoBook, "a"), (("divide", ("gen", 9, 9), 9), NoChapter, 9),
            (("divide", SPOT, 4), NoNumber, 4),
            (("divide", ("gen", 1, 9), 9), NoVerse, 9), (("divide", SPOT, None), NoNumber, None),
            (("merge", SPOT), NoVerse, 4),
            (("merge", ("gen", 1, 2)), TooMany, 5), (("merge", ("gen", 3, 1)), NoChapter, 3),
            (("lessen", [0, 27]), NoNumber, 27),
            (("lessen", (1, True)), NoNumber, True), (("lessen", [None, -1]), NoNumber, None),
            (("lessen", [-1]), NoNumber, -1),
        ):
            with self.assertRaises(kind) as caught:
                changed(EDITION, [("lessen", []), deed, None])
            self.assertIs(type(caught.exception), kind)
            self.assertEqual(vars(caught.exception), {"found": found})
            self.assertIs(type(caught.exception.found), type(found))

    def test_lessen_refuses_numbers_and_then_places(self):
        for numbers in (None, True, 0, "", "0", {}, {0: 0}, [0] * 501, EDITION, Places(EDITION), all_of(EDITION)):
            refused(self, NoPlaces, {"found": numbers}, changed, EDITION, [("lessen", numbers)])
        self.assertEqual(changed(EDITION, [("lessen", [0] * 500)]).size(), 26)
        for deeds, many in (([("lessen", list(range(27)))], 27),
                            ([("lessen", list(range(2, 27))), ("lessen", [1, 0, 0])], 2)):
            with self.assertRaises(NoPlaces) as caught:
                changed(EDITION, deeds)
            places = caught.exception.found
            self.assertIs(type(places), Places)
            self.assertEqual((len(places), places.edition().size()), (many, many))

    def test_the_first_deed_ahead_of_a_bad_one_behind_it(self):
        refused_equal(self, TooMany, 5, changed, EDITION, [("merge", ("gen", 1, 2)), None])
        refused(self, NoDeed, {"found": None}, changed, EDITION, [None, ("merge", ("gen", 1, 2))])
        names = {"gen": "a"}
        refused(self, NoNames, {"found": names}, changed, EDITION, (("rename", names), ("merge", None), ("x",)))

    def test_thirty_verses(self):
        edition = Edition([("a", [[2, 2] + [1] * 27])])
        first, second = ("divide", ("a", 1, 1), 1), ("divide", ("a", 1, 3), 1)
        refused_equal(self, TooMany, 31, changed, edition, [first, second])
        told = changed(edition, [first, ("merge", ("a", 1, 29)), second])
        self.assertEqual(told.told()[0], (("a", ((1,) * 29 + (2,),)),))


class LedBack(unittest.TestCase):
    def test_line_by_line(self):
        chance = random.Random(74)
        for _ in range(60):
            first = random_edition(chance, 40)
            now, kept = first, set(first.lines())
            for _ in range(chance.randint(0, 10)):
                deed = random_deed(now, chance)
                if deed[0] == "lessen":
                    kept -= {now.line_at(number) for number in deed[1]}
                now = changed(now, [deed])
            leading = Leading(now, first)
            self.assertEqual(len(leading.lacking()), 0)
            gone = [number for number, line in enumerate(first.lines()) if line not in kept]
            self.assertEqual(leading.lacking_back(), numbered(first, gone))
            for number in range(now.size()):
                self.assertEqual(first.line_at(leading.goes_to(number)), now.line_at(number))

    def test_lines_stay_with_their_parts_but_for_lessening(self):
        for deed in (("rename", BOOKS), ("reorder", ORDER), ("divide", SPOT, 1), ("merge", ("gen", 1, 1))):
            leading = Leading(changed(EDITION, [deed]), EDITION)
            self.assertEqual((len(leading.lacking()), len(leading.lacking_back())), (0, 0))
        for deed in (("rename", BOOKS), ("divide", SPOT, 1), ("merge", ("gen", 1, 1))):
            self.assertEqual(changed(EDITION, [deed]).lines(), EDITION.lines())


if __name__ == "__main__":
    unittest.main()
