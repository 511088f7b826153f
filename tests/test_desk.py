"""Points 122 and 123: the lines of a desk that tell of editions, and that ask of the one in use."""

import unittest

from bookplaces.desk import Desk
from bookplaces.errors import NoBook, NoChapter, NoEdition, NoLines, NoNumber, NoPlaces
from bookplaces.errors import NoText, NoTorn, NoVerse, NoWriting, TooMany
from bookplaces.places import Places
from tests.checks import outcome
from tests.desks import DeskTests, desk, history, look


class Editions(DeskTests):
    def test_edition(self):
        made = Desk()
        self.answers(
            made, ("edition one gen 01 214 / gen 02 13 / ex 01 1", "12"), ("show", "gen 01 214 / gen 02 13 / ex 01 1"),
            ("editions", "one"),
            ("edition two a 01 1\nb 01 2", "3"), ("show", "a 01 1 / b 01 2"), ("editions", "one / two"),
            ("edition three a 01 12 / = 2 0-1\n", "3"), ("show", "a 01 12 / = 2 0-1"), ("edition four a 01 1\n", "1"),
            ("show", "a 01 1"),
            ("editions", "one / two / three / four"),
        )

    def test_in_the_place_of_one_that_was(self):
        made = desk("put a gen", "use two", "put b lev", "use one")
        self.answers(
            made, ("edition two x 01 11", "2"), ("editions", "two / one"), ("show", "x 01 11"), ("lists", "none"),
            ("rows one", "0-1>0-1"),
            ("use one", "ok"), ("lists", "a"), ("edition one gen 01 4", "4"), ("editions", "two / one"),
            ("lists", "none"),
        )
        self.assertEqual(history(made), (0, 0))

    def test_blank_slash_blank(self):
        made = Desk()
        self.answers(made, ("edition a x 01 1 / x 02 2", "3"), ("edition b y 01 1 / = 7", "1"), ("editions", "a / b"))
        for line, at in (
            ("edition c / x 01 1", 0), ("edition c x 01 1 /", 0), ("edition c x 01 1 / / x 02 1", 1),
            ("edition c x 01 1/ x 02 1", 0),
            ("edition c x 01 1 /x 02 1", 0), ("edition c x 01 1 / /", 1), ("edition c /", 0),
            ("edition c x 01 1 \n x 02 1", 0),
            ("edition c x 01 1 / x 02 1 / /", 2), ("edition c x 01 1 / y", 1), ("edition c", 0),
            ("edition c x 01 1 / / / x 02 1", 1),
            ("edition c x 01 1 / \n", 1), ("edition c x 01 1\n\n", 1),
        ):
            self.refuses(made, (line, NoText, at))

    def test_edition_refuses(self):
        made = desk("put a gen")
        chapters = " / ".join([f"{name} {number:02d} 1" for name in "wxyz" for number in range(1, 12)])
        self.refuses(
            made, ("edition one x 02 1", NoText, 0), ("edition two x 01 1 / = 1 / y", NoText, 2),
            ("edition three x 01 5", NoText, 0),
            ("edition one " + chapters, TooMany, 44),
            ("edition one x 01 " + "4" * 30 + " / x 02 " + "4" * 30 + " / x 03 " + "4" * 30
                                                      + " / x 04 " + "4" * 11, TooMany, 404),
            ("edition one x 01 11 / = 1", NoLines, [(1, 1)]), ("edition one x 01 11 / = 1 1", NoLines, (1, 1)),
        )

    def test_use_and_editions(self):
        made = desk("put a gen", "use two", "put b lev")
        self.answers(
            made, ("lists", "b"), ("use one", "ok"), ("lists", "a"), ("use one", "ok"), ("editions", "two / one"),
            ("use two", "ok"),
            ("tell b", "lev"), ("editions", "two / one"),
        )
        self.refuses(made, ("use three", NoEdition, "three"), ("use a", NoEdition, "a"))
        refused = Desk()
        self.assertEqual(outcome(refused.say, "use one"), (NoEdition, {"found": "one"}))
        self.assertEqual(refused.say("editions"), "none")

    def test_show(self):
        self.answers(desk(), ("show", "gen 01 214 / gen 02 13 / ex 01 1"))
        self.answers(desk("use two"), ("show", "gen 01 4 / gen 02 31 / lev 01 31 / = 3-6 0-2 20 7-10"))

    def test_place(self):
        made = desk()
        self.answers(
            made, ("place 0", "gen 1:1a"), ("place 2", "gen 1:2"), ("place 6", "gen 1:3d"), ("place 7", "gen 2:1"),
            ("place 11", "ex"),
        )
        self.answers(desk("use two"), ("place 7", "gen 2:2"), ("place 11", "lev 2"), ("place 9", "lev 1b"))
        self.refuses(made, ("place 12", NoNumber, 12), ("place " + "9" * 30, NoNumber, 10 ** 30 - 1))

    def test_verse(self):
        made = desk("edition far gen 01 1 / = 100", "use one")
        self.answers(
            made, ("verse two gen 1 3", "alike / gen 1"), ("verse two gen 1 1", "within / gen 2:1"),
            ("verse two gen 1 2", "within / gen 2:1"),
            ("verse two gen 2 2", "split / lev 1 / lev 2"), ("verse two ex 1 1", "lacking"),
            ("verse far gen 1 1", "lacking"),
            ("verse one gen 1 1", "alike / gen 1:1"), ("verse one ex 1 1", "alike / ex"), ("use two", "ok"),
            ("verse one gen 2 1", "split / gen 1:1 / gen 1:2"), ("verse one gen 2 2", "lacking"),
            ("verse one lev 1 1", "split / gen 2:1 / gen 2:2"), ("verse one lev 1 2", "within / gen 2:2"),
        )
        self.refuses(
            desk(), ("verse two lev 1 1", NoBook, "lev"), ("verse two gen 3 1", NoChapter, 3),
            ("verse two gen 1 4", NoVerse, 4),
            ("verse two lev 9 9", NoBook, "lev"), ("verse three lev 9 9", NoEdition, "three"),
        )


class Changes(DeskTests):
    def test_merge_and_divide(self):
        made = desk("put a gen 1:1,3b", "put b ex", "back")
        self.assertEqual(history(made), (1, 1))
        self.answers(made, ("merge gen 1 1", "12"), ("show", "gen 01 34 / gen 02 13 / ex 01 1"),
                     ("tell a", "gen 1:1a-1b,2b"), ("lists", "a"))
        self.assertEqual(history(made), (0, 0))
        self.answers(
            made, ("put c ex", "1"), ("divide gen 1 2 1", "12"), ("show", "gen 01 313 / gen 02 13 / ex 01 1"),
            ("text", "a gen 1:1a-1b,3a / c ex"),
            ("editions", "two / one"), ("divide gen 1 1 2", "12"), ("show", "gen 01 2113 / gen 02 13 / ex 01 1"),
            ("rows two", "0-2>4-6 3-6>0-3 7-10>8-11 11>none"),
        )
        self.assertEqual(history(made), (0, 0))

    def test_lessen(self):
        made = desk("put a gen 1", "put b ex", "put c gen 1:2")
        self.answers(
            made, ("lessen gen 1:2,ex", "10"), ("show", "gen 01 24 / gen 02 13 / = 0-1 3-10"),
            ("text", "a gen 1 / b / c"), ("rows two", "0-1>4-5 2-5>0-3 6-9>8-11"),
            ("lessen", "10"), ("lessen gen 1:1", "8"), ("show", "gen 01 4 / gen 02 13 / = 3-10"),
        )
        self.assertEqual(history(made), (0, 0))
        self.answers(made, ("put a gen", "8"), ("lessen", "8"))
        self.assertEqual(history(made), (0, 0))

    def test_the_edition_of_the_same_name_alone(self):
        made = desk("use two", "put z gen 1", "use one", "merge gen 1 1", "use two")
        self.answers(made, ("show", "gen 01 4 / gen 02 31 / lev 01 31 / = 3-6 0-2 20 7-10"), ("lists", "z"))
        self.assertEqual(history(made), (1, 0))

    def test_refuse(self):
        made = desk("put a gen 1:1", "put b ex", "back")
        self.refuses(
            made, ("merge lev 1 1", NoBook, "lev"), ("merge gen 3 1", NoChapter, 3), ("merge gen 1 4", NoVerse, 4),
            ("merge gen 1 3", NoVerse, 4),
            ("merge gen 1 2", TooMany, 5), ("merge ex 1 1", NoVerse, 2), ("divide lev 1 1 9", NoBook, "lev"),
            ("divide gen 3 9 9", NoChapter, 3),
            ("divide gen 1 4 9", NoVerse, 4), ("divide gen 1 3 4", NoNumber, 4), ("divide ex 1 1 1", NoNumber, 1),
            ("lessen A", NoWriting, 0, "form"),
            ("lessen gen,zzz", NoWriting, 4, "book"),
        )
        kind, fields = outcome(made.say, "lessen gen-ex")
        self.assertEqual((kind, type(fields["found"]), len(fields["found"])), (NoPlaces, Places, 12))
        thirty = Desk()
        thirty.say("edition a x 01 4" + "1" * 29)
        self.refuses(thirty, ("divide x 1 1 3", TooMany, 31), ("divide x 1 1 4", NoNumber, 4))


class Asks(DeskTests):
    def test_read_short_full_verses(self):
        made = desk()
        self.answers(
            made, ("read gen", "0-10"), ("read gen 1:2-2:1", "2-7"), ("read ex,gen 1:1a", "0 11"), ("read", "none"),
            ("read gen 1:3b", "4"),
            ("short ex,gen", "gen-ex"), ("short gen 1:1a-1b", "gen 1:1"), ("short", "none"),
            ("full gen 1:3", "gen 1:3a-gen 1:3d"), ("full ex,gen 1:1a", "gen 1:1a;ex 1:1a"), ("full", "none"),
            ("verses gen 1:3b-2:1", "gen 1:3 / gen 2:1"), ("verses ex,gen 1:1b", "gen 1:1 / ex"), ("verses ex", "ex"),
            ("verses", "none"),
        )
        for word in ("read", "short", "full", "verses"):
            self.refuses(
                made, (f"{word} A", NoWriting, 0, "form"), (f"{word} gen,zzz", NoWriting, 4, "book"),
                (f"{word} 1", NoWriting, 0, "said"),
                (f"{word} gen 1:9", NoWriting, 0, "verse"), (f"{word} gen / ex", NoWriting, 0, "form"),
                (f"{word} ?", NoWriting, 0, "form"),
            )

    def test_nothing_said_from_line_to_line(self):
        self.refuses(desk("read gen 1:1"), ("read 2", NoWriting, 0, "said"))

    def test_torn(self):
        made = desk()
        self.answers(
            made, ("torn gen 1?2", "gen 1,2 / gen 1-2 / gen 1:2 / gen 1;2"), ("torn gen", "gen"), ("torn ?x", "ex"),
            ("torn zzz", "none"),
            ("torn", "none"), ("torn A?", "none"), ("torn ge? ?:2", "gen 1:2 / gen 2:2"),
        )
        self.refuses(made, ("torn ???", NoTorn, "???"), ("torn " + "a" * 31, NoTorn, "a" * 31),
                     ("torn gen ? ? ?", NoTorn, "gen ? ? ?"))

    def test_lead_misread_rows(self):
        made = desk()
        self.answers(
            made, ("lead two gen 1", "gen 1-2:1 / none"), ("lead two gen 2,ex", "lev / ex"),
            ("lead two ex", "none / ex"), ("lead two", "none / none"),
            ("lead one ex,gen", "gen-ex / none"), ("misread two gen 2", "none / lev / gen 2"),
            ("misread two gen 1", "gen 1 / gen 2:1 / none"),
            ("misread two ex", "refused"), ("misread two gen 1:3", "refused"), ("misread two", "none / none / none"),
            ("misread one gen", "gen / none / none"),
            ("rows two", "0-2>4-6 3-6>0-3 7-10>8-11 11>none"), ("rows one", "0-11>0-11"), ("use two", "ok"),
            ("rows one", "0-3>3-6 4-6>0-2 7>none 8-11>7-10"),
            ("misread one gen 2", "none / gen 1:1-2 / gen 2"), ("lead one gen 2", "gen 1:1-2 / gen 2:2"),
        )
        for word in ("lead", "misread"):
            self.refuses(
                desk(), (f"{word} two lev", NoWriting, 0, "book"), (f"{word} two gen 2:3", NoWriting, 0, "verse"),
                (f"{word} two A", NoWriting, 0, "form"),
                (f"{word} three A", NoEdition, "three"), (f"{word} two gen 3", NoWriting, 0, "chapter"),
            )
        self.refuses(desk(), ("rows three", NoEdition, "three"))

    def test_nothing_is_changed_by_asking(self):
        made = desk("put a gen", "put b ex", "back")
        before = look(made), history(made)
        for line in ("read gen", "short gen", "full gen", "verses gen", "torn g?n", "lead two gen", "misread two gen",
                     "rows two", "place 3",
                     "verse two gen 1 1", "show", "editions", "lists", "tell a", "holders 0", "portions 2 a", "text",
                     "join a a", "meet a a",
                     "leave a a", "apart a a"):
            self.assertEqual(made.say(line), made.say(line))
            self.assertEqual((look(made), history(made)), before)


if __name__ == "__main__":
    unittest.main()
