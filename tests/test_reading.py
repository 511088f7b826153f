"""Points 40 to 46: what a writing tells, and what can't be read."""

import random
import unittest

from bookplaces.editions import Edition
from bookplaces.errors import NoEdition, NoMark, NoSaid, NoWriting
from bookplaces.places import Places, all_of
from bookplaces.reading import Reading, read
from tests.checks import FULL, MIXED, NO_NUMBERS, SIX, refused, unread
from tests.plain import Plain

# gen and lev have more chapters than one, ex and jude one.
BOOKS = (
    ("gen", ((1, 1, 2, 1, 1, 2, 1), (4, 1, 1), (1,))),
    ("ex", ((2, 1, 3),)),
    ("lev", ((1,), (1, 2, 1), (1,) * 12)),
    ("jude", ((1,) * 30,)),
)
EDITION = Edition(BOOKS)
PLAIN = Plain(BOOKS)


def spots(text, said=None, mark=","):
    return [spot for _, spot in read(EDITION, text, said, mark).spots()]


class Pieces(unittest.TestCase):
    def test_each_form_behind_each_said_and_mark(self):
        # What was said, the piece, and what it tells behind `,` and behind `;`.
        gen, gen_2, verse, part = ("gen",), ("gen", 2), ("gen", 1, 2), ("gen", 1, 3, 2)
        for said, piece, comma, semicolon in (
            (None, "gen", gen, gen), (verse, "ex", ("ex",), ("ex",)),
            (None, "gen 2", gen_2, gen_2), (verse, "gen 2", gen_2, gen_2), (part, "lev 3", ("lev", 3), ("lev", 3)),
            (None, "gen 1:3", ("gen", 1, 3), ("gen", 1, 3)), (("lev",), "gen 1:3b", part, part),
            (gen, "1:3", ("gen", 1, 3), ("gen", 1, 3)), (gen_2, "1:3b", part, part),
            (part, "2:1", ("gen", 2, 1), ("gen", 2, 1)), (verse, "2:1d", ("gen", 2, 1, 4), ("gen", 2, 1, 4)),
            (gen, "2", gen_2, gen_2), (("gen", 1), "2", gen_2, gen_2), (gen_2, "1", ("gen", 1), ("gen", 1)),
            (verse, "3", ("gen", 1, 3), ("gen", 3)), (part, "3", ("gen", 1, 3), ("gen", 3)),
            (("gen", 2, 1), "3", ("gen", 2, 3), ("gen", 3)), (("gen", 2, 1, 4), "1", ("gen", 2, 1), ("gen", 1)),
            # Books of one chapter: a number alone is a verse, whatever was said and whatever the mark is.
            (None, "ex 3", ("ex", 1, 3), ("ex", 1, 3)), (verse, "ex 3c", ("ex", 1, 3, 3), ("ex", 1, 3, 3)),
            (None, "ex 1:3", ("ex", 1, 3), ("ex", 1, 3)), (("ex",), "1:3a", ("ex", 1, 3, 1), ("ex", 1, 3, 1)),
            (("ex",), "2", ("ex", 1, 2), ("ex", 1, 2)), (("ex", 1), "2", ("ex", 1, 2), ("ex", 1, 2)),
            (("ex", 1, 3), "2a", ("ex", 1, 2, 1), ("ex", 1, 2, 1)), (("ex", 1, 3, 2), "1b", ("ex", 1, 1, 2), ("ex", 1, 1, 2)),
            (None, "jude 30", ("jude", 1, 30), ("jude", 1, 30)), (("jude", 1, 1), "12", ("jude", 1, 12), ("jude", 1, 12)),
        ):
            self.assertEqual(spots(piece, said, ","), [comma], (said, piece))
            self.assertEqual(spots(piece, said, ";"), [semicolon], (said, piece))

    def test_behind_a_dash(self):
        for text, last in (
            ("gen 1:2-3", ("gen", 1, 3)), ("gen 1:2-3a", ("gen", 1, 3, 1)), ("gen 1:2-2:3", ("gen", 2, 3)),
            ("gen 1:3b-5", ("gen", 1, 5)), ("gen 1-2", ("gen", 2)), ("gen 1-2:1", ("gen", 2, 1)), ("gen 1-gen", ("gen",)),
            ("gen 1:2-gen 2", ("gen", 2)), ("gen-ex 3", ("ex", 1, 3)), ("gen-lev 2:1", ("lev", 2, 1)),
            ("ex 1-2", ("ex", 1, 2)), ("ex 1-3b", ("ex", 1, 3, 2)), ("ex 1-1:2", ("ex", 1, 2)), ("gen-lev", ("lev",)),
            ("gen 1:3a-3b", ("gen", 1, 3, 2)), ("gen 1:3a-3", ("gen", 1, 3)),
        ):
            self.assertEqual(spots(text)[1], last, text)

    def test_from_piece_to_piece(self):
        for text, told in (
            ("gen 1:3,4;3", [("gen", 1, 3), ("gen", 1, 4), ("gen", 3)]),
            ("gen 1:3,4;2:1,2", [("gen", 1, 3), ("gen", 1, 4), ("gen", 2, 1), ("gen", 2, 2)]),
            ("gen 1:3;2,3", [("gen", 1, 3), ("gen", 2), ("gen", 3)]),
            ("gen 1,2:3,1", [("gen", 1), ("gen", 2, 3), ("gen", 2, 1)]),
            ("gen;2;1:1;3", [("gen",), ("gen", 2), ("gen", 1, 1), ("gen", 3)]),
            ("gen 2:1-3,1", [("gen", 2, 1), ("gen", 2, 3), ("gen", 2, 1)]),
            ("ex,3;2", [("ex",), ("ex", 1, 3), ("ex", 1, 2)]),
            ("jude 3-7,9;4", [("jude", 1, n) for n in (3, 7, 9, 4)]),
        ):
            self.assertEqual(spots(text), told, text)

    def test_names_of_one_to_six_letters(self):
        edition = Edition(SIX)
        for name, _ in SIX:
            self.assertEqual(read(edition, name).said(), (name,))
        edition = Edition((("a", ((1,),)), ("b", ((2,), (2,))), ("d", ((2,),))))
        for text, told in (("a", ("a",)), ("b 1:1b", ("b", 1, 1, 2)), ("d 1b", ("d", 1, 1, 2)), ("d 1a", ("d", 1, 1, 1))):
            self.assertEqual(read(edition, text).said(), told)

    def test_the_document_s_writing(self):
        books = (("gen", ((1,) * 9, (1,) * 3)), ("ex", ((1,) * 4, (1, 1, 1, 1, 2, 1))), ("lev", ((1,), (1,))))
        reading = read(Edition(books), "gen 1:3-5,7;2,ex 2:5b-lev")
        self.assertEqual(reading.places().runs(), [(2, 4), (6, 6), (9, 11), (21, 24)])
        self.assertEqual([at for at, _ in reading.spots()], [0, 8, 10, 12, 14, 22])


class Items(unittest.TestCase):
    def test_of_one_piece(self):
        for text, runs in (
            ("gen", [(0, 15)]), ("gen 2", [(9, 14)]), ("gen 1:3", [(2, 3)]), ("gen 1:3b", [(3, 3)]), ("ex 1", [(16, 17)]),
        ):
            self.assertEqual(read(EDITION, text).places().runs(), runs)

    def test_of_two_over_verses_chapters_and_books(self):
        for text, run in (
            ("gen 1:2-3", (1, 3)), ("gen 1:3b-6a", (3, 6)), ("gen 1:7-2:1a", (8, 9)), ("gen 1-2", (0, 14)),
            ("gen 3-ex", (15, 21)), ("gen 2:1c-lev 2:2b", (11, 25)), ("ex-jude 1", (16, 39)), ("gen 1:3b-gen", (3, 15)),
            ("gen 1:3a-3", (2, 3)), ("gen 2-gen", (9, 15)), ("ex 2-ex", (18, 21)),
        ):
            self.assertEqual(read(EDITION, text).stretches(), [run], text)

    def test_in_any_order_and_more_than_once(self):
        reading = read(EDITION, "gen 2,1:3-5,2;1:4,4,ex 1,gen 1:1")
        self.assertEqual(reading.places().runs(), [(0, 5), (9, 14), (16, 17)])
        self.assertEqual(reading.stretches(), [(9, 14), (2, 5), (1, 1), (4, 4), (4, 4), (16, 17), (0, 0)])

    def test_commas_and_semicolons_between_items(self):
        self.assertEqual(read(EDITION, "gen 1:1,2,3-4;3").stretches(), [(0, 0), (1, 1), (2, 4), (15, 15)])

    def test_more_items_than_places_are_made_of(self):
        text = "gen 1:1" + ",2,1" * 500
        reading = read(EDITION, text)
        self.assertEqual((len(reading), reading.places().runs()), (1001, [(0, 1)]))
        every_second = ",".join(f"{name} {chapter}:{verse}" for name in "abcd" for chapter in range(1, 11)
                                for verse in range(1, 11, 2))
        reading = read(Edition(FULL), every_second + ";" + every_second)
        self.assertEqual((len(reading), len(reading.places())), (400, 200))

    def test_text_without_signs(self):
        for said, mark in ((None, ","), (None, ";"), (("gen", 1, 2), ","), (("ex",), ";")):
            reading = read(EDITION, "", said, mark)
            self.assertEqual(reading.places(), Places(EDITION))
            self.assertEqual((reading.stretches(), reading.spots(), reading.said()), ([], [], said))
            self.assertEqual((reading.in_order(), len(reading), str(reading)), (True, 0, ""))


class Unread(unittest.TestCase):
    def unread(self, text, at, why, said=None, mark=","):
        unread(self, at, why, read, EDITION, text, said, mark)

    def test_no_text(self):
        for text in NO_NUMBERS[:3] + (0, 1, [], ["gen"], ("gen",), {}, {"gen": 1}, EDITION, all_of(EDITION)):
            self.unread(text, 0, "text")

    def test_form(self):
        for piece in (" ", "gen ", " gen", "gen  1", "gen 1 ", "gen\n1", "gen\n", "Gen", "GEN 1", "abcdefg", "abcdefg 1", "gen1",
                      "gen01", "gen 0", "gen 01", "gen 1:0", "gen 1:01", "gen 1000", "gen 1:1000", "gen 1:", "gen :1",
                      "gen 1:1:1", "gen 1: 1", "gen 1 1", "gen a", "gen 1e", "gen 1ab", "gen 1a:1", "gen 1:1A", "gen 1 a",
                      "1 gen", " 1", "1 ", "0", "01", "0:1", "1:", ":", ":1", "1:0", "1e", "1ab", "a1", "1000", "1:1000",
                      "1a:1", "1.1", "+1", "gen/1", "gen ex", "ex gen 1", "1:1:1", "gen:1", "gen 1:a", "1:a", "~", "gen\u00a01",
                      "gen \u0661", "\u0661"):
            self.unread(piece, 0, "form")
            self.unread(piece, 0, "form", ("gen", 1, 1))
            self.unread("gen 1:1," + piece, 8, "form")
            self.unread("gen 1:1-" + piece + ",x", 8, "form")

    def test_said(self):
        for piece in ("1", "1:1", "1a", "999", "999:999", "1:1d", "9:9"):
            self.unread(piece, 0, "said")
            self.unread(piece + ",gen", 0, "said", None, ";")
            self.unread(piece + "--", 0, "said")

    def test_book(self):
        for piece in ("ge", "genx", "x", "x 1", "x 99:99d", "x 1d", "a", "abcdef 1:1"):
            self.unread(piece, 0, "book")
            self.unread("gen 1:1;" + piece, 8, "book")

    def test_chapter(self):
        for piece in ("gen 4", "gen 999", "gen 4:1", "gen 9:9", "gen 4a", "gen 9:9d", "ex 2:1", "ex 2:9", "ex 999:1", "lev 4d"):
            self.unread(piece, 0, "chapter")
        for piece, said, mark in (
            ("4", ("gen",), ","), ("4:1", ("gen", 1, 2), ","), ("7", ("gen", 1, 2), ";"), ("4", ("lev", 3, 4), ";"),
            ("2:1", ("ex",), ","), ("4d", ("gen", 1), ";"), ("13", ("lev", 3), ","),
        ):
            self.unread(piece, 0, "chapter", said, mark)

    def test_verse(self):
        for piece in ("gen 1:8", "gen 1:999", "gen 2:4d", "ex 4", "ex 1:4", "ex 999", "ex 4d", "jude 31", "lev 1:2"):
            self.unread(piece, 0, "verse")
        for piece, said, mark in (
            ("8", ("gen", 1, 2), ","), ("4", ("gen", 2, 1, 1), ","), ("1:8", ("gen",), ","), ("4", ("ex",), ";"),
            ("4", ("ex", 1, 1), ","), ("4a", ("ex", 1), ";"),
        ):
            self.unread(piece, 0, "verse", said, mark)

    def test_part(self):
        for piece in ("gen 2a", "gen 1d", "gen 1:1b", "gen 1:3c", "ex 1c", "ex 3d", "ex 2b", "ex 1:3d", "lev 2:1b"):
            self.unread(piece, 0, "part")
        for piece, said, mark in (
            ("2a", ("gen",), ","), ("2a", ("gen", 1, 1), ";"), ("2b", ("gen", 1, 1), ","), ("1:1b", ("gen", 2), ";"),
            ("2b", ("ex",), ";"), ("1c", ("ex", 1, 3), ","),
        ):
            self.unread(piece, 0, "part", said, mark)

    def test_order(self):
        for text, at in (
            ("gen-gen", 4), ("gen 2-1", 6), ("gen 2-2", 6), ("gen 1:3-3", 8), ("gen 1:3-2", 8), ("gen 1:3b-3a", 9),
            ("gen 1:3b-3b", 9), ("gen 1:3-3b", 8), ("gen 1:3b-3", 9), ("ex-gen", 3), ("ex-3", 3), ("gen-3", 4), ("gen 3-gen", 6),
            ("gen 2-1:7", 6), ("lev 2:1-gen 3", 8), ("ex 3-3c", 5), ("gen,ex-gen,x", 7), ("gen 1:1-1a", 8), ("gen 1-1:7", 6),
        ):
            self.unread(text, at, "order")

    def test_again(self):
        for text, at in (
            ("gen 1-2-", 7), ("gen 1-2-3", 7), ("gen-ex-lev", 6), ("gen 1:1-2-x", 9), ("gen,ex 1-2-3", 10),
            ("gen 1-2--", 7), ("gen 1:1-2-999", 9), ("gen-ex-gen", 6), ("gen 1:1-2,3-4-5", 13),
        ):
            self.unread(text, at, "again")

    def test_pieces_without_signs(self):
        for text, at in (
            (",", 0), (";", 0), ("-", 0), (",gen", 0), ("-gen", 0), (";gen,x", 0), ("gen,", 4), ("gen;", 4), ("gen-", 4),
            ("gen,,ex", 4), ("gen,;ex", 4), ("gen--2", 4), ("gen--", 4), ("gen 1:2,-3", 8), ("gen 1:2-,3", 8), ("gen,ex,", 7),
            (",,,", 0), ("gen;-", 4),
        ):
            self.unread(text, at, "form")
            self.unread(text, at, "form", ("gen", 1, 2), ";")

    def test_two_due_at_once(self):
        for text, at, why in (
            ("x 0", 0, "form"), ("1 ,x", 0, "form"), ("0", 0, "form"), ("1,x", 0, "said"), ("x 99:99d,1 ", 0, "book"),
            ("gen 9:9d", 0, "chapter"), ("gen 4d", 0, "chapter"), ("ex 2:9d", 0, "chapter"), ("gen 1:9d", 0, "verse"),
            ("ex 9d", 0, "verse"), ("ex-gen 9", 3, "chapter"), ("ex-gen 1:9", 3, "verse"), ("ex-gen 1a", 3, "part"),
            ("ex-gen-", 3, "order"), ("ex-x-", 3, "book"), ("gen-ex-x", 6, "again"), ("gen-ex-", 6, "again"),
            ("gen-0-", 4, "form"), ("gen 9,x", 0, "chapter"), ("gen,x,gen 9", 4, "book"), ("gen-gen,x", 4, "order"),
            ("gen--ex-lev", 4, "form"), ("gen 2--", 6, "form"),
        ):
            self.unread(text, at, why)

    def test_nothing_is_left_of_what_was_said_by_what_is_refused(self):
        self.unread("gen 1:2,x", 8, "book")
        self.unread("3", 0, "said")


class Asked(unittest.TestCase):
    def test_no_edition(self):
        for thing in (None, True, 0, "", BOOKS, [], {}, all_of(EDITION)):
            refused(self, NoEdition, {"found": thing}, read, thing, "gen")
            refused(self, NoEdition, {"found": thing}, read, thing, None, "no said", "no mark")

    def test_no_said(self):
        for said in (True, False, 0, 1, "", "gen", (), [], ["gen"], ("x",), ("gen", 4), ("gen", 1, 8), ("gen", 1, 1, 2), ("ex", 2),
                     ("gen", True), ("gen", 1, None), (None,), ([],), ({},), ("gen",) * 5, ("gen", 1, 1, 1, 1), {}, EDITION):
            refused(self, NoSaid, {"found": said}, read, EDITION, "gen", said)
            refused(self, NoSaid, {"found": said}, read, EDITION, None, said, "no mark")

    def test_no_mark(self):
        for mark in NO_NUMBERS + ("-", ",,", ",;", " ", ":", [","], (",",), {",": 1}, all_of(EDITION), 44):
            refused(self, NoMark, {"found": mark}, read, EDITION, "gen", None, mark)
            refused(self, NoMark, {"found": mark}, read, EDITION, None, ("gen", 1), mark)

    def test_by_names_and_left_out(self):
        self.assertEqual(read(EDITION, "2", said=("gen", 1, 1)).said(), ("gen", 1, 2))
        self.assertEqual(read(EDITION, "2", said=("gen", 1, 1), mark=";").said(), ("gen", 2))
        self.assertEqual(read(EDITION, "2", ("gen", 1, 1), mark=",").said(), ("gen", 1, 2))
        self.assertEqual(read(EDITION, "gen", mark=";").said(), ("gen",))

    def test_every_spot_may_have_been_said(self):
        for spot in PLAIN.spots:
            self.assertEqual(read(EDITION, "", spot).said(), spot)
            self.assertEqual(read(EDITION, "1:1", spot).said(), (spot[0], 1, 1))


class Told(unittest.TestCase):
    def test_of_a_reading(self):
        text = "gen 1:3-5,7;2,ex 2a,1"
        reading = read(EDITION, text)
        self.assertIs(type(reading), Reading)
        self.assertIs(type(reading.places()), Places)
        self.assertTrue(reading.places().edition().same(EDITION))
        self.assertEqual(reading.places().runs(), [(2, 5), (8, 14), (16, 18)])
        self.assertEqual(reading.stretches(), [(2, 5), (8, 8), (9, 14), (18, 18), (16, 17)])
        self.assertEqual(reading.spots(), [
            (0, ("gen", 1, 3)), (8, ("gen", 1, 5)), (10, ("gen", 1, 7)), (12, ("gen", 2)), (14, ("ex", 1, 2, 1)),
            (20, ("ex", 1, 1))])
        self.assertEqual((reading.said(), len(reading), str(reading)), (("ex", 1, 1), 5, text))
        self.assertIs(reading.in_order(), False)

    def test_in_order(self):
        for text, in_order in (
            ("gen", True), ("gen-ex", True), ("gen,ex", True), ("ex,gen", False), ("gen,gen", False), ("gen,gen 1", False),
            ("gen 1:1,2,3", True), ("gen 1:1-3,3", False), ("gen 1:1-3a,3b", True), ("gen 1:1-3,3b", False),
            ("gen 1:1,3,2", False), ("gen 1:2,1,3", False), ("gen 1,3,2", False), ("gen 1,2,3,ex,jude", True),
        ):
            self.assertIs(read(EDITION, text).in_order(), in_order, text)

    def test_what_was_said_hinders_no_order(self):
        self.assertIs(read(EDITION, "1:1", ("gen", 3)).in_order(), True)

    def test_told_and_changed_afterwards(self):
        reading = read(EDITION, "gen 1:3-5,7")
        for ask in (reading.stretches, reading.spots):
            told = ask()
            answer = list(told)
            told.append("more")
            told[0] = None
            self.assertEqual(ask(), answer)
        self.assertEqual(reading.places(), reading.places())

    def test_kinds(self):
        reading = read(EDITION, "gen 1:3-5,7a")
        for stretch in reading.stretches():
            self.assertEqual((type(stretch), [type(n) for n in stretch]), (tuple, [int, int]))
        for row in reading.spots():
            at, spot = row
            self.assertEqual((type(row), type(at), type(spot)), (tuple, int, tuple))
            self.assertEqual({type(n) for n in spot[1:]}, {int})


class Plainly(unittest.TestCase):
    def check(self, edition, plain, text, said, mark):
        try:
            reading = read(edition, text, said, mark)
            told = (reading.stretches(), reading.spots(), reading.said())
            ends = [end for stretch in told[0] for end in stretch]
            self.assertIs(reading.in_order(), all(ahead < behind for ahead, behind in zip(ends[1::2], ends[2::2])))
            self.assertEqual((len(reading), str(reading)), (len(told[0]), text))
        except NoWriting as error:
            told = (error.at, error.why)
        self.assertEqual(told, plain.read(text, said, mark), (text, said, mark))

    def test_texts_of_pieces(self):
        chance = random.Random(41)
        for books in (BOOKS, MIXED):
            edition, plain = Edition(books), Plain(books)
            heard = [None] + sorted(plain.spots)
            pieces = plain.pieces() + ["", "x", "0", "9:9", "gen 9", "gen 1:9d", "99", "gen 1d"]
            for _ in range(3000):
                text = "".join(chance.choice(pieces) + chance.choice(",;-") for _ in range(chance.randint(1, 5)))
                self.check(edition, plain, text[:-1], chance.choice(heard), chance.choice(",;"))

    def test_texts_of_signs(self):
        chance = random.Random(44)
        books = (("a", ((1, 2), (1,))), ("b", ((2, 1),)))
        edition, plain = Edition(books), Plain(books)
        heard = [None] + sorted(plain.spots)
        for _ in range(5000):
            text = "".join(chance.choice("aabb1122 ::,;-") for _ in range(chance.randint(0, 7)))
            self.check(edition, plain, text, chance.choice(heard), chance.choice(",;"))


if __name__ == "__main__":
    unittest.main()
