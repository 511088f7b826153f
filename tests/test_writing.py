"""Points 50 to 54: places written in full and as short as may be."""

import random
import unittest

from bookplaces.editions import Edition
from bookplaces.errors import NoEdition, NoMark, NoPlaces, NoSaid
from bookplaces.places import Places, all_of, numbered, spot_places
from bookplaces.reading import read
from bookplaces.writing import full, is_shortest, measure, short_of, shortest
from tests.checks import ALL_BOOKS, FULL, MIXED, NO_NUMBERS, SIX, outcome, refused, sets_of, sizes, unread
from tests.plain import Plain

# gen and lev have more chapters than one, ex and num one.
EDITION = Edition(MIXED)
NO_PLACES = NO_NUMBERS + ([], [(0, 1)], "gen", ((0, 1),), 3)


def written(pairs, said=None, mark=","):
    return shortest(Places(EDITION, pairs), said, mark)


class Full(unittest.TestCase):
    def test_runs(self):
        for pairs, text in (
            (None, ""), ([(0, 0)], "gen 1:1a"), ([(2, 2)], "gen 1:2a"), ([(0, 26)], "gen 1:1a-num 1:3a"),
            ([(11, 11)], "ex 1:1a"), ([(3, 6), (9, 9), (22, 24)], "gen 1:3a-gen 1:3d;gen 2:2b;lev 3:1d-num 1:1b"),
            ([(4, 5)], "gen 1:3b-gen 1:3c"), ([(0, 0), (2, 2)], "gen 1:1a;gen 1:2a"),
        ):
            self.assertEqual(full(Places(EDITION, pairs)), text)

    def test_the_document_s_writing(self):
        edition = Edition((("gen", ((1, 1, 2),)), ("ex", ((1,), (1, 1, 1, 1, 2, 1))), ("lev", ((1, 1),))))
        places = read(edition, "gen 3a-ex 2:5b;lev 1a").places()
        self.assertEqual(full(places), "gen 1:3a-ex 2:5b;lev 1:1a")
        places = read(edition, "gen 3a-ex 2:6;lev 1a").places()
        self.assertEqual(full(places), "gen 1:3a-lev 1:1a")

    def test_is_read_as_these(self):
        edition = Edition(MIXED[:1])
        for held in sets_of(10):
            places = numbered(edition, held)
            self.assertEqual(read(edition, full(places)).places(), places)
            self.assertEqual(len(read(edition, full(places))), len(places.runs()))

    def test_no_places(self):
        for thing in NO_PLACES:
            refused(self, NoPlaces, {"found": thing}, full, thing)


class Shortest(unittest.TestCase):
    def test_spots(self):
        for spot, text in (
            (("gen",), "gen"), (("gen", 2), "gen 2"), (("gen", 1, 3), "gen 1:3"), (("gen", 1, 3, 2), "gen 1:3b"),
            (("gen", 1, 2, 1), "gen 1:2"), (("ex",), "ex"), (("ex", 1), "ex"), (("ex", 1, 1, 1), "ex"), (("num", 1), "num"),
            (("num", 1, 2), "num 2"), (("num", 1, 1, 2), "num 1b"), (("lev", 3, 1), "lev 3"), (("lev", 2, 1, 1), "lev 2:1"),
        ):
            self.assertEqual(shortest(spot_places(EDITION, spot)), text)

    def test_all_and_none(self):
        for books, text in zip(ALL_BOOKS, ("a", "gen-num", "a-d", "x-y", "zzzzzz-uuuuuu")):
            self.assertEqual(shortest(all_of(Edition(books))), text)
            for said, mark in ((None, ","), ((books[0][0],), ";"), ((books[0][0], 1, 1), ",")):
                self.assertEqual(shortest(Places(Edition(books)), said, mark), "")

    def test_runs_over_the_ends_of_verses_chapters_and_books(self):
        for pairs, text in (
            ([(1, 2)], "gen 1:1b-2"), ([(1, 4)], "gen 1:1b-3b"), ([(2, 6)], "gen 1:2-3"), ([(6, 7)], "gen 1:3d-2:1"),
            ([(0, 9)], "gen 1-2:2b"), ([(2, 10)], "gen 1:2-2:2"), ([(7, 11)], "gen 2-ex"), ([(1, 11)], "gen 1:1b-ex"),
            ([(11, 23)], "ex-num 1a"), ([(9, 18)], "gen 2:2b-lev 2"), ([(13, 26)], "lev 1:1b-num"), ([(12, 18)], "lev 1-2"),
            ([(0, 10)], "gen"), ([(0, 11)], "gen-ex"), ([(0, 12)], "gen-lev 1:1a"), ([(10, 12)], "gen 2:2c-lev 1:1a"),
        ):
            self.assertEqual(written(pairs), text)

    def test_a_run_in_several_items(self):
        # The end of the chapter and the next one as items of their own are shorter than one item.
        self.assertEqual(written([(3, 10)]), "gen 1:3;2")
        edition = Edition((("abcdef", ((1, 1, 1), (1,) * 12, (1,))),))
        self.assertEqual(shortest(numbered(edition, [1, 2] + list(range(3, 15)))), "abcdef 1:2-3;2")
        self.assertEqual(shortest(numbered(edition, [2] + list(range(3, 15)))), "abcdef 1:3;2")

    def test_ties(self):
        # Of as many signs the fewer items, then as Python compares texts.
        edition = Edition((("a", ((1, 1), (1, 1), (1, 1))), ("b", ((1, 1),)), ("cc", ((1, 1), (1, 1)))))
        for numbers, said, text in (
            ([0, 1, 2, 3], None, "a 1-2"), ([6, 7, 8, 9, 10, 11], None, "b-cc"), ([4, 5, 6, 7], None, "a 3-b"),
            ([0, 2], None, "a 1:1,2:1"), ([0, 1, 4, 5], None, "a 1,3"), ([0, 4, 5], None, "a 1:1;3"),
            ([2, 3, 4, 5], ("a",), "2-3"), ([0, 1, 2, 3, 4, 5], ("a",), "a"), ([8, 9, 10, 11], ("cc",), "cc"),
            ([8, 9, 10, 11], ("cc", 1, 1), "cc"), ([8], ("cc",), "1:1"), ([6, 7], ("b",), "b"), ([6, 7], ("b", 1, 2), "b"),
        ):
            self.assertEqual(shortest(numbered(edition, numbers), said), text)
        # A book of three letters is no shorter than its two chapters, and the figures come first.
        edition = Edition((("gen", ((1, 1), (1, 1))), ("num", ((1, 1, 1),))))
        self.assertEqual(shortest(numbered(edition, [0, 1, 2, 3]), ("gen",)), "1-2")
        self.assertEqual(shortest(numbered(edition, [4, 5, 6]), ("num",)), "1-3")

    def test_every_second_part_of_four_hundred(self):
        places = numbered(Edition(FULL), list(range(0, 400, 2)))
        chapters = ["1,3,5,7,9"] + [f"{chapter}:1,3,5,7,9" for chapter in range(2, 11)]
        text = ",".join(f"{name} 1:" + ",".join(chapters) for name in "abcd")
        self.assertEqual(shortest(places), text)
        self.assertEqual(read(Edition(FULL), text).places(), places)

    def test_every_second_part_of_verses_of_four(self):
        books = (("x", ((4,) * 30,) * 3), ("y", ((4,) * 10,)))
        places = numbered(Edition(books), list(range(1, 400, 2)))
        chapter = ",".join(f"{verse}b,{verse}d" for verse in range(1, 31))
        text = f"x 1:{chapter},2:{chapter},3:{chapter},y " + ",".join(f"{verse}b,{verse}d" for verse in range(1, 11))
        self.assertEqual(shortest(places), text)

    def test_behind_each_kind_of_said_and_mark(self):
        for spot, said, comma, semicolon in (
            (("gen",), ("ex",), "gen", "gen"), (("gen", 2), ("gen",), "2", "2"), (("gen", 2), ("gen", 1), "2", "2"),
            (("gen", 2), ("gen", 1, 3), "2:1-2", "2"), (("gen", 2), ("gen", 2, 1, 1), "1-2", "2"),
            (("gen", 2), ("lev", 1), "gen 2", "gen 2"), (("gen", 1, 3), ("gen",), "1:3", "1:3"),
            (("gen", 1, 3), ("gen", 1), "1:3", "1:3"), (("gen", 1, 3), ("gen", 1, 1), "3", "1:3"),
            (("gen", 1, 3), ("gen", 1, 1, 2), "3", "1:3"), (("gen", 1, 3), ("gen", 2, 1), "1:3", "1:3"),
            (("gen", 1, 3, 2), ("gen", 1, 3, 1), "3b", "1:3b"), (("num", 1, 2), ("num",), "2", "2"),
            (("num", 1, 2), ("num", 1), "2", "2"), (("num", 1, 2), ("num", 1, 1, 1), "2", "2"),
            (("num", 1, 1, 2), ("num",), "1b", "1b"), (("num", 1, 2), ("gen", 1, 1), "num 2", "num 2"),
            (("ex",), ("ex", 1, 1), "1", "1"), (("ex",), ("gen",), "ex", "ex"), (("lev", 3), ("lev", 3, 1), "1", "3"),
            (("gen",), ("gen",), "1-2", "1-2"), (("gen",), ("gen", 1, 1), "gen", "1-2"), (("num",), ("num", 1, 1), "1-3", "1-3"),
        ):
            places = spot_places(EDITION, spot)
            self.assertEqual(shortest(places, said, ","), comma, (spot, said))
            self.assertEqual(shortest(places, said, ";"), semicolon, (spot, said))
            self.assertEqual(shortest(places, said), comma)
            self.assertEqual(shortest(places, mark=";", said=said), semicolon)

    def test_behind_nothing_the_mark_is_nothing(self):
        edition = Edition(MIXED[:1])
        for held in sets_of(8):
            self.assertEqual(shortest(numbered(edition, held)), shortest(numbered(edition, held), None, ";"))

    def test_no_places_ahead_of_all_else(self):
        for thing in NO_PLACES:
            refused(self, NoPlaces, {"found": thing}, shortest, thing)
            refused(self, NoPlaces, {"found": thing}, shortest, thing, "no said", "no mark")

    def test_no_said_no_mark(self):
        places = Places(EDITION)
        for said in (True, 0, "", "gen", (), ["gen"], ("x",), ("gen", 3), ("gen", 1, 1, 3), ([],), {}, EDITION, ("gen", True)):
            refused(self, NoSaid, {"found": said}, shortest, places, said)
            refused(self, NoSaid, {"found": said}, shortest, places, said, "no mark")
        for mark in NO_NUMBERS + ("-", " ", ",;", [","], (",",)):
            refused(self, NoMark, {"found": mark}, shortest, places, None, mark)
        refused(self, NoSaid, {"found": ("gen",)}, shortest, Places(Edition(FULL)), ("gen",), ",")


class TheBest(unittest.TestCase):
    """Of small editions all writings in order are gone over, up to as many signs as the one told has."""

    def best(self, books, held, said, mark):
        text = shortest(numbered(Edition(books), held), said, mark)
        found = Plain(books).writings(held, said, mark, len(text))
        self.assertEqual((min(found)[2], min(found)[0]), (text, len(text)), (books, held, said, mark))

    def test_all_sets_behind_all_that_may_be_said(self):
        for books in ((("a", ((1, 1), (1,))), ("b", ((2,),))), (("ab", ((2,), (1, 1))),), (("a", ((1, 1, 1, 1),)), ("c", ((1,),)))):
            for held in sets_of(sizes(books))[1:]:
                for said in [None] + sorted(Plain(books).spots):
                    for mark in ",;":
                        self.best(books, held, said, mark)

    def test_all_sets_of_others(self):
        for books in (
            (("a", ((1,), (1,), (1,))), ("bc", ((1,),)), ("d", ((1,), (1,)))), (("abc", ((1, 1, 1), (2, 1))),),
            (("b", ((1,),)), ("a", ((1,),)), ("cc", ((1,),)), ("d", ((1, 1),))), (("a", ((3, 2),)), ("b", ((1,),))),
        ):
            for held in sets_of(sizes(books))[1:]:
                self.best(books, held, None, ",")

    def test_some_sets_of_greater_ones(self):
        chance = random.Random(52)
        checked = 0
        while checked < 150:
            names = chance.sample(["a", "b", "cd", "efg", "hijklm"], chance.randint(1, 3))
            books = tuple([(name, tuple([tuple([chance.choice((1, 1, 1, 2)) for _ in range(chance.choice((1, 2, 3, 11)))])
                                         for _ in range(chance.choice((1, 1, 2, 3)))])) for name in names])
            if sizes(books) > 14:
                continue
            often = chance.choice((0.4, 0.7, 0.9, 1))
            held = [number for number in range(sizes(books)) if chance.random() < often]
            said, mark = chance.choice([None] + sorted(Plain(books).spots)), chance.choice(",;")
            if held and len(shortest(numbered(Edition(books), held), said, mark)) <= 15:
                self.best(books, held, said, mark)
                checked += 1

    def test_no_writing_in_order_is_better_than_the_one_told(self):
        chance = random.Random(54)
        for books in (MIXED, SIX, (("gen", ((1,) * 11,) * 3), ("ex", ((1, 1),) * 11))):
            edition, plain = Edition(books), Plain(books)
            heard, pieces = [None] + sorted(plain.spots), plain.pieces()
            for _ in range(2000):
                text = "".join(chance.choice(pieces) + chance.choice(",;-") for _ in range(chance.randint(1, 4)))[:-1]
                said, mark = chance.choice(heard), chance.choice(",;")
                reading = outcome(read, edition, text, said, mark)
                if isinstance(reading, tuple):
                    continue
                short = shortest(reading.places(), said, mark)
                again = read(edition, short, said, mark)
                self.assertEqual(again.places(), reading.places())
                self.assertTrue(again.in_order())
                self.assertEqual(short_of(edition, text, said, mark), short)
                if reading.in_order():
                    self.assertLessEqual((len(short), len(again), short), (len(text), len(reading), text))


class ReadAgain(unittest.TestCase):
    def test_all_sets(self):
        edition = Edition((("a", ((2, 1), (1, 1))), ("b", ((1, 2),)), ("c", ((1,), (1,)))))
        for said, mark in ((None, ","), (("a", 1, 1), ","), (("b",), ";"), (("c", 2, 1, 1), ",")):
            texts = {}
            for held in sets_of(10):
                places = numbered(edition, held)
                text = shortest(places, said, mark)
                reading = read(edition, text, said, mark)
                self.assertEqual(reading.places(), places)
                self.assertTrue(reading.in_order())
                texts[text] = held
            self.assertEqual(len(texts), 1 << 10)

    def test_large_editions(self):
        chance = random.Random(53)
        for books in ALL_BOOKS:
            edition = Edition(books)
            for often in (0.02, 0.1, 0.5, 0.9, 0.99):
                held = [number for number in range(sizes(books)) if chance.random() < often]
                places = numbered(edition, held)
                for said, mark in ((None, ","), ((books[-1][0], 1, 1), ",")):
                    reading = read(edition, shortest(places, said, mark), said, mark)
                    self.assertEqual((reading.places(), reading.in_order()), (places, True))
                    self.assertLessEqual(len(str(reading)), len(full(places)))


class IsShortest(unittest.TestCase):
    def test_just_the_shortest(self):
        places = Places(EDITION, [(3, 10)])
        self.assertIs(is_shortest(places, "gen 1:3;2"), True)
        for thing in ("", "gen 1:3,2", "gen 1:3-gen", "gen 1:3-gen 2", "gen 1:3;2 ", "gen 1:3,gen 2", full(places), "none"):
            self.assertIs(is_shortest(places, thing), False)
        self.assertIs(is_shortest(Places(EDITION), ""), True)
        self.assertIs(is_shortest(Places(EDITION), "gen"), False)

    def test_any_thing(self):
        for places in (Places(EDITION), Places(EDITION, [(0, 0)])):
            for thing in (None, True, False, 0, 1, [], ["gen"], (), ("gen 1:1a",), {}, places, EDITION):
                self.assertIs(is_shortest(places, thing), False)

    def test_no_places(self):
        for thing in NO_PLACES:
            refused(self, NoPlaces, {"found": thing}, is_shortest, thing, "gen")
            refused(self, NoPlaces, {"found": thing}, is_shortest, thing, None)


class ShortOf(unittest.TestCase):
    def test_of_texts(self):
        for text, said, mark, short in (
            ("gen 1,gen 2", None, ",", "gen"), ("ex,gen", None, ",", "gen-ex"), ("gen 1:3a,3b,3c-3d", None, ",", "gen 1:3"),
            ("gen 2:2,gen 1:1", ("gen", 1, 2), ",", "1,2:2"), ("gen 2:2,gen 1:1", ("gen", 1, 2), ";", "1:1,2:2"),
            ("", ("ex",), ";", ""), ("2;1", ("gen",), ",", "1-2"), ("2", ("gen", 1, 1), ",", "2"), ("2", ("gen", 1, 1), ";", "2"),
        ):
            self.assertEqual(short_of(EDITION, text, said, mark), short)
            self.assertEqual(short_of(EDITION, text, mark=mark, said=said), short)
        self.assertEqual(short_of(EDITION, "ex,gen"), "gen-ex")

    def test_refused(self):
        refused(self, NoEdition, {"found": None}, short_of, None, None, "no said", "no mark")
        refused(self, NoSaid, {"found": "gen"}, short_of, EDITION, None, "gen", "no mark")
        refused(self, NoMark, {"found": "-"}, short_of, EDITION, None, ("gen",), "-")
        unread(self, 0, "text", short_of, EDITION, None, ("gen",), ";")
        unread(self, 4, "book", short_of, EDITION, "gen,x")
        unread(self, 0, "said", short_of, EDITION, "1")


class Measure(unittest.TestCase):
    def test_of_texts(self):
        for text, told in (
            ("", (0, 0, True)), ("gen", (3, 1, True)), ("gen-ex", (6, 1, True)), ("gen,ex", (6, 2, True)),
            ("ex,gen", (6, 2, False)), ("gen 1:1,2,3-2:1", (15, 3, True)), ("gen 1:2,2", (9, 2, False)),
            ("gen 1:1" + ",2,1" * 500, (2007, 1001, False)),
        ):
            self.assertEqual(measure(EDITION, text), told)
            self.assertEqual([type(thing) for thing in measure(EDITION, text)], [int, int, bool])
            self.assertIs(type(measure(EDITION, text)), tuple)

    def test_refused(self):
        for thing in (None, True, "", MIXED):
            refused(self, NoEdition, {"found": thing}, measure, thing, "x")
        for text in (None, 0, ["gen"], EDITION):
            unread(self, 0, "text", measure, EDITION, text)
        unread(self, 4, "book", measure, EDITION, "gen,x")
        unread(self, 0, "said", measure, EDITION, "2")


if __name__ == "__main__":
    unittest.main()
