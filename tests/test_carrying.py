"""Points 70 and 71: writings carried by a leading, and misread."""

import random
import unittest

from bookplaces.carrying import carried, misread
from bookplaces.editions import Edition
from bookplaces.errors import NoLeading, NoMark, NoSaid
from bookplaces.leading import Leading
from bookplaces.places import Places, all_of, numbered
from bookplaces.reading import read
from bookplaces.writing import full, is_shortest, shortest
from tests.checks import FULL, NO_NUMBERS, outcome, refused, unread
from tests.leadings import ONE, OTHER, random_edition
from tests.plain import Plain

LEADING = Leading(ONE, OTHER)
NO_LEADINGS = NO_NUMBERS + (0, ONE, (ONE, OTHER), LEADING.rows(), str(LEADING), all_of(ONE), read(ONE, "a"))

# The same names and lines: x has two chapters here and one there, and y other verses.
HERE = Edition([("x", [[1, 1], [2]]), ("y", [[1, 1, 1], [1]])])
THERE = Edition([("x", [[1, 1, 2]]), ("y", [[1, 1], [1, 1]])])
TO_THERE = Leading(HERE, THERE)
FAR = Edition([("x", [[1, 1]])], [(100, 2)])


def texts_of(edition, chance):
    """Some writings, some of them short, some full, and some that may be refused."""
    places = numbered(edition, [n for n in range(edition.size()) if chance.random() < 0.4])
    pieces = ["p", "q", "p 1", "p 2", "q 1", "p 1:1", "p 1:2", "p 2:1b", "q 1:1a", "q 2:1", "q 1:3"]
    loose = chance.choice(",;-").join(chance.sample(pieces, chance.randint(1, 2)))
    return [shortest(places), full(places), loose]


class Carried(unittest.TestCase):
    def test_whole_in_part_and_not_at_all(self):
        for text, two in (
            ("a 1:1", ("c 3", "")), ("b", ("c 1-2", "")), ("a 2:2", ("d 1:1c-d", "")), ("a 2:2b", ("d 1:1d", "")),
            ("a", ("c 3,d 1:1c-d", "a 1:2-2:1")), ("a 1", ("c 3", "a 1:2")), ("a-b", ("c,d 1:1c-d", "a 1:2-2:1")),
            ("b 1a,a 2", ("c 1,d 1:1c-d", "a 2:1")), ("a 1:2", ("", "a 1:2")), ("a 2:1,1:2", ("", "a 1:2-2:1")),
            ("", ("", "")),
        ):
            self.assertEqual(carried(LEADING, text), two, text)
        self.assertEqual(carried(Leading(ONE, FAR), "a 2:2;b"), ("", "a 2:2-b"))
        self.assertEqual(carried(Leading(ONE, ONE), "a 1:1a-1b,2"), ("a 1", ""))

    def test_the_kinds(self):
        told = carried(LEADING, "a 1")
        self.assertIs(type(told), tuple)
        self.assertEqual([type(text) for text in told], [str, str])

    def test_behind_what_was_said(self):
        for said, mark, text, two in (
            (None, ",", "a 2", ("d 1:1c-d", "a 2:1")), (None, ";", "a 2", ("d 1:1c-d", "a 2:1")),
            (("a",), ",", "2", ("d 1:1c-d", "a 2:1")), (("a",), ";", "2", ("d 1:1c-d", "a 2:1")),
            (("a", 1), ",", "2", ("d 1:1c-d", "a 2:1")), (("a", 1), ";", "2", ("d 1:1c-d", "a 2:1")),
            (("a", 1, 1), ",", "2", ("", "a 1:2")), (("a", 1, 1), ";", "2", ("d 1:1c-d", "a 2:1")),
            (("a", 1, 1, 2), ",", "2", ("", "a 1:2")), (("a", 1, 1, 2), ";", "2", ("d 1:1c-d", "a 2:1")),
            (("b", 1, 1, 2), ",", "1a", ("c 1", "")), (("b",), ";", "1a", ("c 1", "")),
        ):
            self.assertEqual(carried(LEADING, text, said, mark), two, (said, mark))
            self.assertEqual(carried(LEADING, text, mark=mark, said=said), two)
            if mark == ",":
                self.assertEqual(carried(LEADING, text, said), two)
                self.assertEqual(carried(LEADING, text, said=said), two)
        self.assertEqual(carried(LEADING, "a 1:1", mark=";"), ("c 3", ""))

    def test_the_same_names_and_other_chapters(self):
        for text, two in (("x 2", ("x 3", "")), ("x 1:2", ("x 2", "")), ("x", ("x", "")), ("y 1", ("y 1-2:1", "")),
                          ("y 2", ("y 2:2", ""))):
            self.assertEqual(carried(TO_THERE, text), two)
        self.assertEqual(carried(TO_THERE.turned(), "x 3b"), ("x 2:1b", ""))
        self.assertEqual(carried(TO_THERE.turned(), "x 2-y 1"), ("x 1:2-y 1:2", ""))

    def test_shortest_by_each_edition(self):
        chance = random.Random(70)
        for _ in range(60):
            one, other = random_edition(chance, 24), random_edition(chance, 24)
            leading = Leading(one, other)
            for text in texts_of(one, chance):
                reading = outcome(read, one, text)
                if isinstance(reading, tuple):
                    self.assertEqual(outcome(carried, leading, text), reading)
                    continue
                over, lacking = carried(leading, text)
                lines = {one.line_at(n) for n in reading.places().numbers()}
                there = read(other, over).places()
                here = read(one, lacking).places()
                self.assertEqual({other.line_at(n) for n in there.numbers()}, lines & set(other.lines()))
                self.assertEqual({one.line_at(n) for n in here.numbers()}, lines - set(other.lines()))
                self.assertTrue(is_shortest(there, over) and is_shortest(here, lacking))

    def test_of_the_most_parts(self):
        full_edition = Edition(FULL)
        turned = Edition(FULL, [(399 - n, 1) for n in range(400)])
        leading = Leading(full_edition, turned)
        self.assertEqual(carried(leading, "a"), ("d", ""))
        self.assertEqual(carried(leading, "a 1:1,b 2:3-4"), ("c 9:7-8,d 10:10", ""))

    def test_no_leading(self):
        for thing in NO_LEADINGS:
            refused(self, NoLeading, {"found": thing}, carried, thing, "a")
            refused(self, NoLeading, {"found": thing}, carried, thing, None, "no said", "no mark")

    def test_no_said_and_no_mark(self):
        for said in (0, True, "a", (), ("c",), ("a", 3), ("a", 1, 3), ("a", 1, 1, 3), ("a", 1, 1, 1, 1), ["a"],
                     [("a",)], ONE):
            refused(self, NoSaid, {"found": said}, carried, LEADING, None, said, "no mark")
        for mark in (0, True, None, "", "-", ",;", " ", ":", [","], (",",), {}, ONE):
            refused(self, NoMark, {"found": mark}, carried, LEADING, None, None, mark)
            refused(self, NoMark, {"found": mark}, carried, LEADING, "z", ("a",), mark)

    def test_refused_as_by_the_one(self):
        for at, why, text in (
            (0, "text", None), (0, "text", 1), (0, "text", ["a"]), (0, "form", "A"), (0, "said", "1"), (0, "book", "c"),
            (2, "chapter", "a,3:1"), (2, "verse", "a,1:3"), (2, "part", "a,1:2b"), (4, "order", "a 2-1"),
            (3, "again", "a-b-b"),
        ):
            unread(self, at, why, carried, LEADING, text)
        unread(self, 0, "said", carried, LEADING, "1", None, ";")
        unread(self, 0, "verse", carried, LEADING, "3", ("a", 1, 1))


class Misread(unittest.TestCase):
    def test_of_the_same_names(self):
        for text, three in (
            ("x 2", ([], [(2, 3)], [(1, 1)])), ("x 1", ([(0, 0)], [(1, 1)], [])), ("x", ([(0, 3)], [], [])),
            ("", ([], [], [])),
            ("y 1", ([(4, 5)], [(6, 6)], [])), ("y 2", ([(7, 7)], [], [(6, 6)])),
            ("y 1:2-2:1", ([(5, 6)], [(7, 7)], [])),
            ("x 1:1,y 2:1", ([(0, 0)], [(7, 7)], [(6, 6)])), ("x 1-y 1:1", ([(0, 4)], [], [])),
        ):
            told = misread(TO_THERE, text)
            self.assertIs(type(told), tuple)
            self.assertEqual([places.runs() for places in told], list(three), text)
            self.assertEqual([type(places) for places in told], [Places] * 3)
            self.assertEqual([places.edition().same(THERE) for places in told], [True] * 3)

    def test_none_where_the_other_can_t_read_it(self):
        for text in ("y 1:3", "x 2:1a", "x 2:1", "y 1:1-1:3", "x 1:1,y 1:3,x"):
            self.assertIsNone(misread(TO_THERE, text))
        for text in ("a", "b", "a 1:1-b"):
            self.assertIsNone(misread(LEADING, text))
        self.assertIsNone(misread(TO_THERE.turned(), "x 1:3"))
        self.assertIsNone(misread(TO_THERE.turned(), "x 3"))

    def test_where_lines_are_lacking(self):
        less = Edition([("x", [[1], [1]]), ("y", [[1]])], [(0, 1), (50, 1), (4, 1)])
        leading = Leading(HERE, less)
        for text, three in (
            ("x", ([(0, 0)], [], [(1, 1)])), ("x 2", ([], [], [(1, 1)])), ("x 1-y", ([(0, 0), (2, 2)], [], [(1, 1)])),
            ("y 1", ([(2, 2)], [], [])),
        ):
            self.assertEqual([places.runs() for places in misread(leading, text)], list(three), text)
        self.assertIsNone(misread(leading, "y 2"))

    def test_as_told_by_lines(self):
        chance = random.Random(71)
        kinds = set()
        for _ in range(80):
            one, other = random_edition(chance, 20), random_edition(chance, 20)
            plain = [Plain(edition.told()[0]) for edition in (one, other)]
            leading = Leading(one, other)
            for text in texts_of(one, chance):
                here, there = [reader.read(text) for reader in plain]
                if len(here) == 2:
                    unread(self, *here, misread, leading, text)
                    continue
                if len(there) == 2:
                    self.assertIsNone(misread(leading, text))
                    kinds.add("none")
                    continue
                lines = {one.line_at(n) for first, last in here[0] for n in range(first, last + 1)}
                meant = {n for n, line in enumerate(other.lines()) if line in lines}
                found = {n for first, last in there[0] for n in range(first, last + 1)}
                wanted = [sorted(numbers) for numbers in (found & meant, meant - found, found - meant)]
                self.assertEqual([places.numbers() for places in misread(leading, text)], wanted)
                kinds.add(tuple(bool(numbers) for numbers in wanted))
        self.assertTrue({"none", (True, True, True), (False, False, False)} <= kinds)

    def test_no_two_have_a_part_in_common(self):
        for text in ("x 2", "y 1", "y 2", "x 1:1,y 2:1"):
            one, two, three = misread(TO_THERE, text)
            self.assertEqual([len(one.met(two)), len(one.met(three)), len(two.met(three))], [0, 0, 0])

    def test_refused(self):
        for thing in NO_LEADINGS:
            refused(self, NoLeading, {"found": thing}, misread, thing, "a")
            refused(self, NoLeading, {"found": thing}, misread, thing, None)
        for at, why, text in (
            (0, "text", None), (0, "text", []), (0, "form", "A"), (0, "said", "1"), (0, "book", "c"),
            (2, "verse", "a,1:3"),
            (4, "order", "a 2-1"), (3, "again", "a-b-b"),
        ):
            # Also where the other would refuse it otherwise, or would read it.
            unread(self, at, why, misread, LEADING, text)
        unread(self, 0, "chapter", misread, TO_THERE, "x 3")
        self.assertEqual(read(THERE, "x 3").places().runs(), [(2, 3)])


if __name__ == "__main__":
    unittest.main()
