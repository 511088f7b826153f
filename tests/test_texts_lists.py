"""Points 112, 113 and 114: lists written as texts and read of texts."""

import random
import unittest

from bookplaces.editions import Edition
from bookplaces.errors import NoEdition, NoNames, NoText, Unready
from bookplaces.leading import Leading
from bookplaces.lists import Lists
from bookplaces.places import Places, all_of, numbered
from bookplaces.texts import lists_of, lists_text
from tests.checks import FULL, MIXED, NO_NUMBERS, refused, unread

EDITION = Edition(MIXED)
NAMES = [letter * 2 for letter in "abcdefghijklmnopqrst"]


def made(edition, *rows):
    lists = Lists(edition)
    for name, pairs in rows:
        lists.put(name, Places(edition, pairs))
    return lists


def no_text(case, line, text):
    with case.assertRaises(NoText) as caught:
        lists_of(EDITION, text)
    case.assertIs(type(caught.exception), NoText)
    case.assertIs(type(caught.exception.line), int)
    case.assertEqual(vars(caught.exception), {"line": line}, text)


class Written(unittest.TestCase):
    def test_lists(self):
        for rows, text in (
            ((), ""), ((("a", []),), "a"), ((("a", [(0, 10)]),), "a gen"), ((("a", [(0, 26)]),), "a gen-num"),
            ((("z", [(3, 6), (9, 9)]), ("a", []), ("abcdef", [(11, 11)])), "z gen 1:3,2:2b\na\nabcdef ex"),
            ((("gen", [(11, 11)]), ("ex", [(0, 10)])), "gen ex\nex gen"),
            ((("a", []), ("b", []), ("c", [(0, 0)])), "a\nb\nc gen 1:1a"),
        ):
            told = lists_text(made(EDITION, *rows))
            self.assertEqual(told, text)
            self.assertIs(type(told), str)

    def test_no_names(self):
        for thing in NO_NUMBERS + (0, EDITION, "a gen", {"a": Places(EDITION)}, all_of(EDITION),
                                   Leading(EDITION, EDITION)):
            refused(self, NoNames, {"found": thing}, lists_text, thing)


class Read(unittest.TestCase):
    def test_lists(self):
        for text, told in (
            ("", ()), ("a", (("a", ()),)), ("a\n", (("a", ()),)), ("a gen", (("a", ((0, 10),)),)),
            ("a gen\n", (("a", ((0, 10),)),)),
            ("z gen 1:3;2:2b,gen 1:3a\na\nabcdef ex,gen", (("z", ((3, 6), (9, 9))), ("a", ()), ("abcdef", ((0, 11),)))),
            ("ex gen 1:1-2\ngen ex 1\n", (("ex", ((0, 2),)), ("gen", ((11, 11),)))),
        ):
            lists = lists_of(EDITION, text)
            self.assertIs(type(lists), Lists)
            self.assertTrue(lists.edition().same(EDITION))
            self.assertEqual(lists.told(), told)

    def test_they_go_back_deed_by_deed(self):
        lists = lists_of(EDITION, "a gen\nb\nc ex")
        self.assertRaises(Unready, lists.forth)
        for names in (["a", "b"], ["a"], []):
            lists.back()
            self.assertEqual(lists.names(), names)
        self.assertRaises(Unready, lists.back)
        for names in (["a"], ["a", "b"], ["a", "b", "c"]):
            lists.forth()
            self.assertEqual(lists.names(), names)
        self.assertRaises(Unready, lists_of(EDITION, "").back)

    def test_no_edition_and_no_text(self):
        for thing in (None, True, 0, "", "gen", (), [], {}, MIXED, all_of(EDITION), Lists(EDITION)):
            refused(self, NoEdition, {"found": thing}, lists_of, thing, None)
        for thing in tuple([thing for thing in NO_NUMBERS if not isinstance(thing, str)]) + (0, ["a"], ("a",),
                                                                                             Lists(EDITION)):
            no_text(self, 0, thing)

    def test_each_refused_line_at_each_place(self):
        lines = ["x gen", "y", "z"]
        for bad in (
            "", " ", "A", "A gen", "abcdefg", "abcdefg gen", "a ", " a", " gen", "a1 gen", "1 gen", "-", "a-gen",
            "a;gen", "a:gen", "a=gen",
            "=", "a\tgen", "gen2", "a.", "x", "x gen", "x ex", "x zzz", "x ", "x  ", "abcdefg ", "A zzz",
        ):
            for at in range(4):
                if bad.startswith("x") and at == 0:
                    continue
                text = "\n".join(lines[:at] + [bad] + lines[at:])
                if not (bad == "" and at == 3):
                    no_text(self, at, text)
                no_text(self, at, text + ("\n" if bad or at < 3 else "\n\n"))
        for text in ("\n", "\n\n", "\na", " \na"):
            no_text(self, 0, text)
        no_text(self, 1, "x gen\nx\nA")

    def test_a_writing_is_refused_at_its_sign(self):
        for line, at, why in (
            ("a A", 0, "form"), ("a  gen", 0, "form"), ("a  ", 0, "form"), ("a gen ", 0, "form"),
            ("a gen,A", 4, "form"), ("a 1", 0, "said"),
            ("a zzz", 0, "book"), ("a gen,zzz", 4, "book"), ("a gen 3", 0, "chapter"), ("a gen 1:4", 0, "verse"),
            ("a gen 1:1-1:2b", 8, "part"),
            ("a gen-ex-lev", 6, "again"), ("a gen,", 4, "form"), ("a gen 1:1-1", 8, "order"), ("a ex gen", 0, "form"),
        ):
            for ahead in ("", "x gen\n", "x gen\ny\n"):
                for behind in ("", "\n", "\nA", "\na", "\nz zzz"):
                    unread(self, at, why, lists_of, EDITION, ahead + line + behind)

    def test_each_line_whole_ahead_of_the_one_behind_it(self):
        unread(self, 0, "book", lists_of, EDITION, "a zzz\nA")
        no_text(self, 0, "A\na zzz")
        no_text(self, 1, "a gen\na zzz")

    def test_nothing_said_from_line_to_line(self):
        unread(self, 0, "said", lists_of, EDITION, "a gen 1:1\nb 2")

    def test_twenty_and_twenty_one(self):
        self.assertEqual(lists_of(EDITION, "\n".join(NAMES)).names(), NAMES)
        self.assertEqual(lists_of(EDITION, "\n".join(NAMES) + "\n").names(), NAMES)
        for bad in ("zz", "zz gen", "zz zzz", "aa", "zz gen\nyy"):
            no_text(self, 20, "\n".join(NAMES + [bad]))
        unread(self, 0, "book", lists_of, EDITION, "\n".join(NAMES[:19] + ["zz zzz", "yy"]))


class ThereAndBack(unittest.TestCase):
    def test_written_and_read(self):
        chance = random.Random(113)
        full = Edition(FULL)
        for edition, most in ((EDITION, 20), (full, 6)):
            for _ in range(15):
                lists = Lists(edition)
                share = chance.random()
                for name in chance.sample(NAMES, chance.randint(0, most)):
                    lists.put(name, numbered(edition, [n for n in range(edition.size()) if chance.random() < share]))
                text = lists_text(lists)
                self.assertLess(len(text), 5001)
                self.assertEqual(lists_of(edition, text).told(), lists.told())
                self.assertEqual(lists_of(Edition(edition.told()[0]), text).told(), lists.told())
                self.assertEqual(lists_text(lists_of(edition, text)), text)

    def test_shortest_is_written_of_any_writing(self):
        self.assertEqual(lists_text(lists_of(EDITION, "a ex,gen 2;gen 1\nb\nc gen 1:1a,1:1b")),
                         "a gen-ex\nb\nc gen 1:1")


if __name__ == "__main__":
    unittest.main()
