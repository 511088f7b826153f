"""Points 110, 111 and 114: editions written as texts and read of texts."""

import random
import unittest

from bookplaces.editions import Edition
from bookplaces.errors import NoEdition, NoLines, NoText, TooMany
from bookplaces.leading import Leading
from bookplaces.places import all_of
from bookplaces.texts import edition_of, edition_text
from tests.checks import ALL_BOOKS, FULL, MIXED, NO_NUMBERS, SIX, refused, refused_equal
from tests.leadings import ONE, OTHER, random_edition

EDITION = Edition(MIXED)
MIXED_TEXT = "gen 01 214\ngen 02 13\nex 01 1\nlev 01 32\nlev 02 11\nlev 03 4\nnum 01 211"
TWELVE = "\n".join([f"{name} {number:02d} 1" for name in "abc" for number in range(1, 13)])


def no_text(case, line, text):
    with case.assertRaises(NoText) as caught:
        edition_of(text)
    case.assertIs(type(caught.exception), NoText)
    case.assertIs(type(caught.exception.line), int)
    case.assertEqual(vars(caught.exception), {"line": line}, text)


class Written(unittest.TestCase):
    def test_chapters(self):
        for edition, text in (
            (EDITION, MIXED_TEXT), (Edition([("a", [[1]])]), "a 01 1"),
            (Edition([("abcdef", [[4] * 30])]), "abcdef 01 " + "4" * 30),
            (Edition([("a", [[1]] * 12)]), "\n".join([f"a {number:02d} 1" for number in range(1, 13)])),
            (Edition([("b", [[1, 2], [3]]), ("a", [[4]])]), "b 01 12\nb 02 3\na 01 4"),
            (Edition([("a", [[1, 2]])], [(0, 3)]), "a 01 12"),
            (Edition([("a", [[1, 2]])], [(0, 1), (1, 2)]), "a 01 12"),
        ):
            self.assertEqual(edition_text(edition), text)
            self.assertIs(type(edition_text(edition)), str)

    def test_the_line_of_lines(self):
        for lines, told in (
            ([(1, 3)], "= 1-3"), ([(9997, 3)], "= 9997-9999"), ([(2, 1), (1, 1), (0, 1)], "= 2 1 0"),
            ([(0, 2), (9999, 1)], "= 0-1 9999"),
            ([(5, 1), (0, 2)], "= 5 0-1"), ([(7, 1), (8, 1), (9, 1)], "= 7-9"), ([(0, 1), (2, 2)], "= 0 2-3"),
            ([(1, 2), (0, 1)], "= 1-2 0"),
        ):
            self.assertEqual(edition_text(Edition([("a", [[1, 2]])], lines)), "a 01 12\n" + told)
        self.assertEqual(edition_text(OTHER), "c 01 122\nd 01 4\nd 02 1\n= 7-9 0-1 20-21 4-6")
        turned = Edition(FULL, [(399 - n, 1) for n in range(400)])
        self.assertEqual(edition_text(turned).split("\n")[-1], "= " + " ".join([str(399 - n) for n in range(400)]))

    def test_no_edition(self):
        for thing in (None, True, 0, "", "a 01 1", (), [], {}, MIXED, all_of(EDITION), Leading(EDITION, EDITION)):
            refused(self, NoEdition, {"found": thing}, edition_text, thing)


class Read(unittest.TestCase):
    def test_chapters_and_lines(self):
        for text, books, pairs in (
            ("a 01 1", (("a", ((1,),)),), ((0, 1),)), ("a 01 1\n", (("a", ((1,),)),), ((0, 1),)),
            (MIXED_TEXT, MIXED, ((0, 27),)), (MIXED_TEXT + "\n", MIXED, ((0, 27),)),
            ("a 01 12\n= 1-3", (("a", ((1, 2),)),), ((1, 3),)), ("a 01 12\n= 1-3\n", (("a", ((1, 2),)),), ((1, 3),)),
            ("a 01 12\n= 1 0 2", (("a", ((1, 2),)),), ((1, 1), (0, 1), (2, 1))),
            ("a 01 12\n= 1 2 3", (("a", ((1, 2),)),), ((1, 3),)),
            ("a 01 12\n= 9999 0-1", (("a", ((1, 2),)),), ((9999, 1), (0, 2))),
            ("a 01 12\n= 0-2", (("a", ((1, 2),)),), ((0, 3),)),
            ("b 01 1\na 01 2\na 02 3", (("b", ((1,),)), ("a", ((2,), (3,)))), ((0, 6),)),
            (TWELVE.replace("c", "cdefgh"), tuple([(name, ((1,),) * 12) for name in ("a", "b", "cdefgh")]), ((0, 36),)),
            ("a 01 " + "1" * 30, (("a", ((1,) * 30,)),), ((0, 30),)),
        ):
            told = edition_of(text)
            self.assertIs(type(told), Edition)
            self.assertEqual(told.told(), (books, pairs), text)

    def test_no_text_and_no_signs(self):
        for thing in tuple([thing for thing in NO_NUMBERS if not isinstance(thing, str)]) + (0, ["a 01 1"], ("a 01 1",),
                                                                                             all_of(EDITION)):
            no_text(self, 0, thing)
        for text in ("", "\n", "\n\n", "\na 01 1", " "):
            no_text(self, 0, text)

    def test_a_line_of_no_form_at_each_place(self):
        lines = ["a 01 1", "a 02 2", "b 01 3"]
        for bad in (
            "", " ", "a", "A", "a 03", "b 02", "c 01", "c 01 ", "c 01  1", " c 01 1", "c 01 1 ", "c 01 1 1", "c  01 1",
            "c01 1", "c 011",
            "C 01 1", "cdefghi 01 1", "c1 01 1", "c- 01 1", " 01 1", "c 1 1", "c 001 1", "c 0x 1", "c o1 1", "c -1 1",
            "c 01 0", "c 01 5",
            "c 01 1x", "c 01 12345", "c 01 1,2", "c 01 " + "1" * 31, "c 00 1", "c 02 1", "c 10 1", "c 1  1", "c +1 1",
            "c 01 =", "c = 1",
            "/", "a / b", "c:01 1", "c 01:1", "#", "~", "c\t01",
        ):
            for at in range(4):
                text = "\n".join(lines[:at] + [bad] + lines[at:])
                # A line feed at the end stands behind the last line, so an empty line there is none.
                if not (bad == "" and at == 3):
                    no_text(self, at, text)
                no_text(self, at, text + "\n" if bad or at < 3 else text + "\n\n")

    def test_the_number_of_a_chapter(self):
        for text, line in (
            ("a 02 1", 0), ("a 00 1", 0), ("a 12 1", 0), ("a 01 1\na 01 1", 1), ("a 01 1\na 03 1", 1),
            ("a 01 1\na 00 1", 1),
            ("a 01 1\na 02 1\na 02 1", 2), ("a 01 1\na 02 1\na 01 1", 2), ("a 01 1\nb 02 1", 1),
            ("a 01 1\nb 01 1\na 02 1", 2),
            ("a 01 1\na 2 1", 1), ("a 01 1\na 002 1", 1), ("a 01 1\na +2 1", 1), ("a 01 1\na -2 1", 1),
            ("a 01 1\na 2  1", 1), ("a 01 1\na 2x 1", 1), ("a 01 1\na x2 1", 1), ("a 01 1\na  2 1", 1),
            ("a 01 1\nb 01 1\na 01 1", 2), ("a 01 1\na 02 1\nb 01 1\na 03 1", 3), ("a 01 1\nb 01 1\nb 03 1", 2),
        ):
            no_text(self, line, text)
        twelve = TWELVE.split("\n")
        self.assertEqual(edition_of("\n".join(twelve[:12])).chapters("a"), 12)
        no_text(self, 12, "\n".join(twelve[:12] + ["a 13 1"]))
        no_text(self, 12, "\n".join(twelve[:12] + ["a 01 1"]))

    def test_the_sixth_name_and_a_seventh(self):
        lines = [f"{name} 01 1" for name in "fedcba"]
        self.assertEqual(edition_of("\n".join(lines)).names(), list("fedcba"))
        self.assertEqual(edition_of("\n".join(lines + ["a 02 1"])).chapters("a"), 2)
        no_text(self, 6, "\n".join(lines + ["g 01 1"]))
        no_text(self, 7, "\n".join(lines + ["a 02 1", "g 01 1"]))
        no_text(self, 6, "\n".join(lines + ["f 02 1"]))

    def test_the_line_of_lines(self):
        for bad in (
            "=", "= ", "=  1", "= 1 ", "= 1  2", "=1", " = 1", "= a", "= 01", "= 1-", "= -1", "= 1-1", "= 2-1",
            "= 1-02", "= 1--2", "= 1-2-3",
            "= 1 - 2", "= 10000", "= 9999-10000", "= 0-400", "= 1-401", "= 9600-10000", "= 1,2", "= 1x", "= +1", "= 00",
            "= 1 2 x", "= ?",
            "== 1", "= =", "= " + " ".join(["1"] * 401), "= " + "1" * 31, "= 1-" + "9" * 40, "=\n= 1",
        ):
            no_text(self, 1, "a 01 12\n" + bad)
            no_text(self, 2, "a 01 12\nb 01 1\n" + bad + "\n")
        for good in ("= 1", "= 0-2", "= 1 2 3"):
            no_text(self, 0, good)
            no_text(self, 0, good + "\na 01 12")
            for behind in ("b 01 1", "= 1", "a 02 1", "= 0-2", " ", "x"):
                no_text(self, 2, "a 01 12\n" + good + "\n" + behind)
            no_text(self, 2, "a 01 12\n" + good + "\n\n")

    def test_the_first_line_that_can_t_stand(self):
        no_text(self, 1, "a 01 1\nx\n= 1\n= 1\nx")
        no_text(self, 2, "a 01 1\n= 5 5\nb 01 1")
        # Ahead of too many chapters, as of lines that don't fit.
        no_text(self, 48, "\n".join([TWELVE] + [f"d {number:02d} 1" for number in range(1, 13)] + ["x"]))

    def test_stretches_of_400_lines(self):
        books = "\n".join([f"a {number:02d} " + "1" * 30 for number in range(1, 13)] + ["b 01 " + "1" * 30,
        "b 02 " + "1" * 10])
        for line, pairs in (("= 0-399", ((0, 400),)), ("= 9600-9999", ((9600, 400),)),
                            ("= 1-399 0", ((1, 399), (0, 1)))):
            self.assertEqual(edition_of(books + "\n" + line).told()[1], pairs)
        self.assertEqual(edition_of(books + "\n= " + " ".join([str(399 - n) for n in range(400)])).line_at(0), 399)

    def test_too_many(self):
        refused_equal(self, TooMany, 48, edition_of,
        "\n".join([f"{name} {n:02d} 1" for name in "abcd" for n in range(1, 13)]))
        chapters = [f"{name} {n:02d} 1" for name in "abcd" for n in range(1, 11)]
        self.assertEqual(edition_of("\n".join(chapters)).size(), 40)
        refused_equal(self, TooMany, 41, edition_of, "\n".join(chapters + ["d 11 1"]))
        refused_equal(self, TooMany, 41, edition_of, "\n".join(chapters + ["d 11 " + "4" * 30, "= 1 1"]))
        parts = ["a 01 " + "4" * 30, "a 02 " + "4" * 30, "a 03 " + "4" * 30, "a 04 " + "4" * 10]
        self.assertEqual(edition_of("\n".join(parts)).size(), 400)
        refused_equal(self, TooMany, 401, edition_of, "\n".join(parts + ["b 01 1"]))
        refused_equal(self, TooMany, 401, edition_of, "\n".join(parts + ["b 01 1", "= 7 7"]))

    def test_no_lines(self):
        for line, found in (
            ("= 0", [(0, 1)]), ("= 0-3", [(0, 4)]), ("= 5 1", [(5, 1), (1, 1)]),
            ("= 1 2 3 4", [(1, 1), (2, 1), (3, 1), (4, 1)]),
            ("= 1 1 2", (1, 1)), ("= 1-2 2-3", (2, 2)), ("= 0-2 9 1", (1, 1)), ("= 4 3 2-399", (2, 398)),
        ):
            with self.assertRaises(NoLines) as caught:
                edition_of("a 01 12\n" + line)
            self.assertIs(type(caught.exception), NoLines)
            self.assertEqual(vars(caught.exception), {"found": found})


class ThereAndBack(unittest.TestCase):
    def test_written_and_read(self):
        for edition in [Edition(books) for books in ALL_BOOKS] + [
            ONE, OTHER, Edition(FULL, [(399 - n, 1) for n in range(400)]), Edition(SIX, [(9987, 13)]),
            Edition(FULL, [(1, 399), (0, 1)]),
        ]:
            text = edition_text(edition)
            self.assertTrue(edition_of(text).same(edition))
            self.assertTrue(edition_of(text + "\n").same(edition))
            self.assertEqual(edition_text(edition_of(text)), text)
        chance = random.Random(114)
        for _ in range(100):
            edition = random_edition(chance, 40)
            self.assertTrue(edition_of(edition_text(edition)).same(edition))


if __name__ == "__main__":
    unittest.main()
