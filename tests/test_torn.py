"""Points 80 to 86: torn writings, and what they may have been."""

import itertools
import unittest

from bookplaces.editions import Edition
from bookplaces.errors import NoEdition, NoMark, NoNumber, NoPlaces, NoTorn
from bookplaces.leading import Leading
from bookplaces.places import Places, all_of, spot_places
from bookplaces.reading import read
from bookplaces.torn import Torn
from tests.checks import FULL, MIXED, NO_NUMBERS, refused, refused_equal
from tests.plain import Plain

BOOKS = (("a", ((2, 1, 1), (1, 1))), ("b", ((1, 3),)), ("ab", ((1,) * 12,)))
EDITION = Edition(BOOKS)
ANEW = Edition([(name, [list(verses) for verses in chapters]) for name, chapters in BOOKS])
OTHER = Edition(BOOKS, [(100, 22)])
PLAIN = Plain(BOOKS)
SIGNS = " ,-0123456789:;abcdefghijklmnopqrstuvwxyz"
# None, one and two torn signs; some may have been nothing, and some one text.
TEXTS = ("", "a", "z", "?", "??", "a?", "?b", "a 1:?", "a ?:2", "a 1:1?", "?a", "a??", "a 1?1", "b?1", "a 1:2,?", "?-?",
         "b 2?-2?",
         "a?b", "ab 1?", "ab 1?,1?", "a 1:1?2?", "x?", "a 9:?", "a-?-b", "A?", "a,b", "a-ab", "1", "? 1", "a ?;?")


def tears(text, many):
    """All texts that have so many `?` in the place of signs of a text."""
    found = []
    for places in itertools.combinations(range(len(text)), many):
        found.append("".join("?" if at in places else sign for at, sign in enumerate(text)))
    return found


def plainly(text):
    """The texts that a torn one may have been, rising, each with the set of its parts."""
    found = {}
    for signs in itertools.product(SIGNS, repeat=text.count("?")):
        left = iter(signs)
        whole = "".join(next(left) if sign == "?" else sign for sign in text)
        told = PLAIN.read(whole)
        if len(told) == 3:
            found[whole] = frozenset(n for first, last in told[0] for n in range(first, last + 1))
    return {whole: found[whole] for whole in sorted(found)}


class Could(unittest.TestCase):
    def test_written_by_hand(self):
        for text, texts in (
            ("a", ["a"]), ("", [""]), ("z", []), ("1", []), ("A", []), ("a\n?", []), ("?", ["a", "b"]), ("a?", ["ab"]),
            ("?b", ["ab"]), ("a 1:?", ["a 1:1", "a 1:2", "a 1:3"]), ("a 1?1", ["a 1,1", "a 1:1", "a 1;1"]),
            ("a?2", ["a 2", "a,2", "a;2"]), ("a 1:1?", ["a 1:1a", "a 1:1b"]),
            ("a 1:1?2", ["a 1:1,2", "a 1:1-2", "a 1:1;2"]),
            ("a?b", ["a,b", "a-b", "a;b"]), ("b?a", ["b,a", "b;a"]), ("ab 1?", ["ab 10", "ab 11", "ab 12", "ab 1a"]),
            ("??", ["ab"]), ("? ?", ["a 1", "a 2", "b 1", "b 2"]), ("a 9:?", []),
            ("?,?", ["a,1", "a,2", "a,a", "a,b", "b,1", "b,2", "b,a", "b,b"]),
        ):
            told = Torn(EDITION, text).could()
            self.assertEqual(told, texts, text)
            self.assertEqual((type(told), len(Torn(EDITION, text))), (list, len(texts)))

    def test_torn_at_every_place(self):
        for text, most in (("a 1:1b-2;2,b 2c", 1), ("a 1:2-b", 2), ("ab 1,12", 2)):
            for many in range(most + 1):
                for torn in tears(text, many):
                    told = Torn(EDITION, torn)
                    wanted = list(plainly(torn))
                    self.assertEqual(told.could(), wanted, torn)
                    self.assertEqual(len(told), len(wanted))
                    self.assertIn(text, wanted)

    def test_each_sign_may_have_stood_there(self):
        # One torn sign alone is a book's name; behind one a name, a number or a mark goes on.
        letters = Edition([(letter, [[1]]) for letter in "aqz"])
        self.assertEqual(Torn(letters, "?").could(), ["a", "q", "z"])
        long = Edition([("a", [[1] * 30])])
        self.assertEqual(Torn(long, "a ?").could(), [f"a {n}" for n in range(1, 10)])
        self.assertEqual(Torn(long, "a 2?").could(), [f"a 2{n}" for n in range(10)] + ["a 2a"])
        self.assertEqual(Torn(long, "a 1?2").could(), ["a 1,2", "a 1-2", "a 1:2", "a 1;2"])
        self.assertEqual(Torn(long, "a?2").could(), ["a 2", "a,2", "a;2"])

    def test_thirty_signs_and_thirty_one(self):
        text = "a 1:1a,1:1b,1:2,1:3;2:1,2:2;b?"
        self.assertEqual(len(text), 30)
        self.assertEqual(Torn(EDITION, text).could(), [])
        text = "a 1:1a,1:1b,1:2,1:3;2:1,2:2;a?"
        self.assertEqual(Torn(EDITION, text).could(), ["a 1:1a,1:1b,1:2,1:3;2:1,2:2;ab"])
        for longer in (text + "b", "?" + text, "a" * 31, "z" * 31, " " * 31, "a" * 4000):
            refused(self, NoTorn, {"found": longer}, Torn, EDITION, longer)

    def test_told_and_changed_afterwards(self):
        torn = Torn(EDITION, "a 1:?")
        torn.could().clear()
        torn.sets().clear()
        torn.signs(4).clear()
        torn.ways(spot_places(EDITION, ("a", 1, 1))).clear()
        self.assertEqual((len(torn.could()), len(torn.sets()), len(torn.signs(4))), (3, 3, 3))
        self.assertEqual(torn.ways(spot_places(EDITION, ("a", 1, 1))), ["a 1:1"])

    def test_text(self):
        for text in TEXTS + ("?\n?", "#", "a" * 30):
            self.assertEqual(str(Torn(EDITION, text)), text)
            self.assertEqual(f"{Torn(EDITION, text)}", text)

    def test_no_edition_and_no_torn(self):
        for thing in (None, True, 0, "", "gen", (), [], {}, BOOKS, all_of(EDITION), Leading(EDITION, EDITION)):
            refused(self, NoEdition, {"found": thing}, Torn, thing, None)
        for thing in (None, True, 0, (), ["a"], ("a",), {}, {"a": 1}, EDITION, all_of(EDITION), Torn(EDITION, "a"),
                      "???", "a?b?c?", "?" * 30, "?" * 31, "????", "a" * 31):
            refused(self, NoTorn, {"found": thing}, Torn, EDITION, thing)


class Signs(unittest.TestCase):
    def test_written_by_hand(self):
        for text, at, signs in (
            ("a 1:?", 4, ["1", "2", "3"]), ("a 1:?", 0, ["a"]), ("a 1:?", 1, [" "]), ("a 1:?", 3, [":"]),
            ("a?b", 1, [",", "-", ";"]),
            ("a 9:?", 4, []), ("a 9:?", 0, []), ("z", 0, []), ("a", 0, ["a"]), ("? ?", 0, ["a", "b"]),
            ("? ?", 2, ["1", "2"]),
            ("ab 1?", 4, ["0", "1", "2", "a"]), ("a?2", 1, [" ", ",", ";"]),
        ):
            told = Torn(EDITION, text).signs(at)
            self.assertEqual((told, type(told)), (signs, list), (text, at))

    def test_of_each_number(self):
        for text in TEXTS:
            torn, wanted = Torn(EDITION, text), plainly(text)
            for at in range(len(text)):
                self.assertEqual(torn.signs(at), sorted({whole[at] for whole in wanted}), (text, at))

    def test_no_number(self):
        for text in ("a 1:?", "z?", "??", "a"):
            torn = Torn(EDITION, text)
            for at in NO_NUMBERS + (-1, len(text), len(text) + 1, 10 ** 29, -10 ** 29, "0"):
                refused(self, NoNumber, {"found": at}, torn.signs, at)
        for at in NO_NUMBERS + (0, -1, 1):
            refused(self, NoNumber, {"found": at}, Torn(EDITION, "").signs, at)


class Sets(unittest.TestCase):
    def test_written_by_hand(self):
        for text, sets in (
            ("a?2", [[(4, 5)], [(0, 5)]]), ("a?b", [[(0, 9)]]), ("", [[]]), ("z", []), ("a", [[(0, 5)]]),
            ("? ?", [[(0, 3)], [(4, 5)], [(6, 6)], [(7, 9)]]), ("a 1:1?2", [[(0, 2)], [(0, 1), (4, 5)]]),
            ("a 1:?", [[(0, 1)], [(2, 2)], [(3, 3)]]), ("b?a", [[(0, 9)]]), ("?,?", [[(0, 5)], [(0, 9)], [(6, 9)]]),
        ):
            torn = Torn(EDITION, text)
            told = torn.sets()
            self.assertEqual([places.runs() for places in told], sets, text)
            self.assertEqual((type(told), torn.many_sets(), type(torn.many_sets())), (list, len(sets), int))
            self.assertEqual([type(places) for places in told], [Places] * len(sets))
            self.assertTrue(all(places.edition().same(EDITION) for places in told))

    def test_in_the_order_of_the_first_texts(self):
        for text in TEXTS:
            torn, wanted = Torn(EDITION, text), plainly(text)
            sets = list(dict.fromkeys(wanted.values()))
            self.assertEqual([frozenset(places.numbers()) for places in torn.sets()], sets, text)
            self.assertEqual(torn.many_sets(), len(sets))

    def test_ways(self):
        for text in TEXTS:
            torn, wanted = Torn(EDITION, text), plainly(text)
            for places in torn.sets():
                held = frozenset(places.numbers())
                ways = [whole for whole, numbers in wanted.items() if numbers == held]
                self.assertEqual(torn.ways(places), ways)
                self.assertEqual(torn.ways(Places(ANEW, places.runs())), ways)
        torn = Torn(EDITION, "a 1?1")
        self.assertEqual(torn.ways(spot_places(EDITION, ("a", 1))), ["a 1,1", "a 1;1"])
        self.assertEqual(torn.ways(Places(EDITION)), [])
        self.assertEqual(torn.ways(all_of(ANEW)), [])
        self.assertEqual(Torn(EDITION, "").ways(Places(ANEW)), [""])
        self.assertEqual(Torn(EDITION, "z").ways(Places(ANEW)), [])

    def test_ways_refuse(self):
        for text in ("a?2", "z", ""):
            torn = Torn(EDITION, text)
            for thing in NO_NUMBERS + ([(0, 5)], "a 2", EDITION, torn, read(EDITION, "a"), Places(OTHER), all_of(OTHER),
                                       Places(Edition(MIXED))):
                refused(self, NoPlaces, {"found": thing}, torn.ways, thing)

    def test_sure_and_perhaps(self):
        for text, sure, perhaps in (
            ("a?2", [(4, 5)], [(0, 5)]), ("a?b", [(0, 9)], [(0, 9)]), ("z", [], []), ("", [], []),
            ("a 1:?", [], [(0, 3)]),
            ("a 1:1?2", [(0, 1)], [(0, 2), (4, 5)]), ("a 9:?", [], []), ("a", [(0, 5)], [(0, 5)]),
        ):
            torn = Torn(EDITION, text)
            for places, runs in ((torn.sure(), sure), (torn.perhaps(), perhaps)):
                self.assertIs(type(places), Places)
                self.assertEqual(places.runs(), runs, text)
                self.assertTrue(places.edition().same(EDITION))
        for text in TEXTS:
            torn, sets = Torn(EDITION, text), list(plainly(text).values())
            inside = frozenset.intersection(*sets) if sets else []
            self.assertEqual(torn.sure().numbers(), sorted(inside))
            self.assertEqual(torn.perhaps().numbers(), sorted(frozenset().union(*sets)))

    def test_of_the_most_parts(self):
        edition = Edition(FULL)
        torn = Torn(edition, "a ?:?,b 9,c 8-d 10:10")
        self.assertEqual((len(torn), torn.many_sets(), len(torn.sure())), (81, 81, 140))
        self.assertEqual(torn.perhaps(), united_plainly(edition, torn))
        self.assertEqual(len(Torn(edition, "?")), 4)


def united_plainly(edition, torn):
    places = Places(edition)
    for text in torn.could():
        places = places.joined(read(edition, text).places())
    return places


class Fits(unittest.TestCase):
    def test_texts(self):
        torn = Torn(EDITION, "a 1?1")
        for text in ("a 1,1", "a 1:1", "a 1;1"):
            self.assertIs(torn.fits(text), True)
        for text in ("a 1?1", "a 1-1", "a 1 1", "a 121", "", "a", "a 1:1 ", "?", "a 1:2"):
            self.assertIs(torn.fits(text), False)
        self.assertIs(Torn(EDITION, "").fits(""), True)
        self.assertIs(Torn(EDITION, "z").fits("z"), False)
        self.assertIs(Torn(EDITION, "a").fits("a"), True)

    def test_things_of_any_kind(self):
        for torn in (Torn(EDITION, "?"), Torn(EDITION, ""), Torn(EDITION, "z")):
            for thing in (None, True, False, 0, 1, (), ("a",), [], ["a"], {}, {"a": "a"}, EDITION, all_of(EDITION),
                          Places(EDITION),
                          torn, read(EDITION, "a"), Leading(EDITION, EDITION), [[["a"]]]):
                self.assertIs(torn.fits(thing), False)


class Mended(unittest.TestCase):
    def test_at_each_tear_by_each_sign(self):
        for text in ("?", "a?2", "a 1:?", "z?", "??", "a 1?1?", "b?1?"):
            torn = Torn(EDITION, text)
            for at in [k for k, sign in enumerate(text) if sign == "?"]:
                found = []
                for sign in SIGNS:
                    mended = torn.mended(at, sign)
                    whole = text[:at] + sign + text[at + 1:]
                    self.assertIs(type(mended), Torn)
                    self.assertEqual(str(mended), whole)
                    self.assertEqual(mended.could(), [one for one in torn.could() if one[at] == sign])
                    self.assertTrue(all(places.edition().same(EDITION) for places in mended.sets()))
                    found.extend(mended.could())
                self.assertEqual(sorted(found), torn.could())
            self.assertEqual(str(torn), text)

    def test_the_same_edition(self):
        mended = Torn(OTHER, "a ?").mended(2, "1")
        self.assertEqual(mended.ways(spot_places(OTHER, ("a", 1))), ["a 1"])
        self.assertEqual((mended.could(), mended.sure().runs()), (["a 1"], [(0, 3)]))

    def test_no_number(self):
        torn = Torn(EDITION, "a?2?")
        for at in NO_NUMBERS + (0, 2, -1, -3, 4, 10 ** 29, "1"):
            refused(self, NoNumber, {"found": at}, torn.mended, at, None)
        for text in ("", "a", "z"):
            for at in (0, 1, -1, None):
                refused(self, NoNumber, {"found": at}, Torn(EDITION, text).mended, at, "a")
        refused_equal(self, NoNumber, 1, torn.mended(1, " ").mended, 1, " ")

    def test_no_mark(self):
        torn = Torn(EDITION, "a?2?")
        for sign in (None, True, 0, 1, "", "?", "A", "aa", "ab", " ,", "\n", ".", "_", "/", "<", "@", "[", "`", "{",
                     "~", "!", "'", "+",
                     (), ("a",), ["a"], {}, {"a": 1}, EDITION, all_of(EDITION), torn, SIGNS):
            for at in (1, 3):
                refused(self, NoMark, {"found": sign}, torn.mended, at, sign)


if __name__ == "__main__":
    unittest.main()
