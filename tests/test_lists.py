"""Points 100 to 102, 104, 106 and 107: lists by names, their deeds, and what they tell."""

import inspect
import unittest

from bookplaces.editions import Edition
from bookplaces.errors import Doubled, NoEdition, NoLeading, NoList, NoName, NoPlaces, TooMany, Unready
from bookplaces.leading import Leading
from bookplaces.lists import Lists
from bookplaces.places import Places, all_of, numbered
from bookplaces.reading import read
from tests.checks import MIXED, NO_NUMBERS, refused, refused_equal
from tests.leadings import ONE, OTHER

EDITION = Edition(MIXED)
ANEW = Edition([(name, [list(verses) for verses in chapters]) for name, chapters in MIXED])
FAR = Edition(MIXED, [(100, 27)])
NO_NAMES = tuple([thing for thing in NO_NUMBERS if thing != "a"]) + (0, "A", "abcdefg", "a b", " ", ["a"], EDITION)
NO_PLACES = NO_NUMBERS + ([(0, 0)], "a", EDITION, all_of(FAR), Places(FAR), read(EDITION, "gen"))
NAMES = [letter * 2 for letter in "abcdefghijklmnopqrst"]


def some(*numbers):
    return numbered(EDITION, numbers)


def filled():
    """Lists a, b and c."""
    lists = Lists(EDITION)
    lists.put("a", some(0, 1, 2, 9))
    lists.put("b", some())
    lists.put("c", some(2, 3))
    return lists


def twenty():
    lists = Lists(EDITION)
    for k, name in enumerate(NAMES):
        lists.put(name, some(k))
    return lists


class Deeds(unittest.TestCase):
    def check(self, word, things, told):
        lists = filled()
        self.assertIsNone(getattr(lists, word)(*things))
        self.assertEqual(lists.told(), told)

    def test_put(self):
        a, b, c = ("a", ((0, 2), (9, 9))), ("b", ()), ("c", ((2, 3),))
        self.check("put", ("d", some(5)), (a, b, c, ("d", ((5, 5),))))
        self.check("put", ("zzzzzz", some()), (a, b, c, ("zzzzzz", ())))
        self.check("put", ("a", some(5)), (("a", ((5, 5),)), b, c))
        self.check("put", ("b", all_of(EDITION)), (a, ("b", ((0, 26),)), c))
        self.check("put", ("c", some()), (a, b, ("c", ())))
        self.check("put", ("a", some(0, 1, 2, 9)), (a, b, c))
        self.check("put", ("d", Places(ANEW, [(4, 6)])), (a, b, c, ("d", ((4, 6),))))

    def test_add_and_strike(self):
        a, b, c = ("a", ((0, 2), (9, 9))), ("b", ()), ("c", ((2, 3),))
        self.check("add", ("a", some(1, 3, 8)), (("a", ((0, 3), (8, 9))), b, c))
        self.check("add", ("b", Places(ANEW, [(4, 6)])), (a, ("b", ((4, 6),)), c))
        self.check("add", ("c", some()), (a, b, c))
        self.check("add", ("c", some(2)), (a, b, c))
        self.check("strike", ("a", some(1, 3, 9)), (("a", ((0, 0), (2, 2))), b, c))
        self.check("strike", ("a", all_of(ANEW)), (("a", ()), b, c))
        self.check("strike", ("b", some(1)), (a, b, c))
        self.check("strike", ("c", some()), (a, b, c))

    def test_drop_and_rename(self):
        a, b, c = ("a", ((0, 2), (9, 9))), ("b", ()), ("c", ((2, 3),))
        self.check("drop", ("a",), (b, c))
        self.check("drop", ("b",), (a, c))
        self.check("drop", ("c",), (a, b))
        self.check("rename", ("a", "z"), (("z", a[1]), b, c))
        self.check("rename", ("b", "zzzzzz"), (a, ("zzzzzz", ()), c))
        self.check("rename", ("c", "ab"), (a, b, ("ab", c[1])))
        lists = filled()
        lists.drop("a")
        lists.put("a", some(4))
        self.assertEqual(lists.told(), (b, c, ("a", ((4, 4),))))

    def test_swap(self):
        a, b, c = ("a", ((0, 2), (9, 9))), ("b", ()), ("c", ((2, 3),))
        self.check("swap", ("a", "c"), (("a", c[1]), b, ("c", a[1])))
        self.check("swap", ("c", "a"), (("a", c[1]), b, ("c", a[1])))
        self.check("swap", ("a", "b"), (("a", ()), ("b", a[1]), c))
        for name in "abc":
            self.check("swap", (name, name), (a, b, c))

    def test_twenty_and_a_twenty_first(self):
        lists = twenty()
        before = lists.told()
        refused_equal(self, TooMany, 21, lists.put, "zz", some(1))
        self.assertEqual(lists.told(), before)
        lists.put("aa", some(9))
        lists.drop("bb")
        lists.put("zz", some(1))
        self.assertEqual(lists.names(), ["aa"] + NAMES[2:] + ["zz"])
        refused_equal(self, TooMany, 21, lists.put, "bb", some(1))
        lists.rename("aa", "bb")
        self.assertEqual((len(lists), lists.names()[0]), (20, "bb"))


class Refused(unittest.TestCase):
    def refused(self, kind, fields, word, *things):
        lists = filled()
        lists.put("a", some(4))
        lists.back()
        before = lists.told()
        refused(self, kind, fields, getattr(lists, word), *things)
        self.assertEqual(lists.told(), before)
        # It was no deed: what was undone can still be done again, and what was done be undone.
        lists.forth()
        self.assertEqual(lists.places_of("a"), some(4))
        for _ in range(4):
            lists.back()
        self.assertRaises(Unready, lists.back)

    def test_no_name_alone_and_ahead_of_all_else(self):
        for name in NO_NAMES:
            for word, things in (
                ("put", ("", some(1))), ("put", ("", None)), ("add", ("", some(1))), ("add", ("", None)),
                ("strike", ("", some(1))),
                ("strike", ("", None)), ("drop", ("",)), ("rename", ("", "z")), ("rename", ("", None)),
                ("rename", ("", "a")),
                ("swap", ("", "a")), ("swap", ("", None)), ("swap", ("", "z")),
            ):
                self.refused(NoName, {"found": name}, word, name, *things[1:])
            # The other name, also where there is no list of the first one.
            for one in ("a", "z"):
                for word in ("rename", "swap"):
                    self.refused(NoName, {"found": name}, word, one, name)

    def test_no_list(self):
        for word, things in (
            ("add", (some(1),)), ("add", (None,)), ("strike", (some(1),)), ("strike", (None,)), ("drop", ()),
            ("rename", ("y",)),
            ("rename", ("a",)), ("rename", ("z",)), ("swap", ("a",)), ("swap", ("y",)), ("swap", ("z",)),
        ):
            self.refused(NoList, {"found": "z"}, word, "z", *things)
        for name in ("z", "abcdef"):
            self.refused(NoList, {"found": name}, "swap", "a", name)

    def test_doubled(self):
        for name in "abc":
            for other in "abc":
                self.refused(Doubled, {"found": other}, "rename", name, other)

    def test_no_places(self):
        for places in NO_PLACES:
            for word in ("put", "add", "strike"):
                self.refused(NoPlaces, {"found": places}, word, "a", places)
            self.refused(NoPlaces, {"found": places}, "put", "z", places)
            lists = twenty()
            refused(self, NoPlaces, {"found": places}, lists.put, "zz", places)

    def test_a_refused_put_changes_nothing(self):
        lists = twenty()
        refused_equal(self, TooMany, 21, lists.put, "zz", some(1))
        lists.back()
        self.assertEqual(lists.names(), NAMES[:19])
        lists.forth()
        self.assertEqual(lists.names(), NAMES)

    def test_no_edition(self):
        for thing in (None, True, 0, "", "gen", (), [], {}, MIXED, all_of(EDITION), Leading(EDITION, EDITION),
                      Lists(EDITION)):
            refused(self, NoEdition, {"found": thing}, Lists, thing)


class Told(unittest.TestCase):
    def test_of_none(self):
        lists = Lists(EDITION)
        self.assertEqual((lists.names(), lists.told(), len(lists), lists.holders(0)), ([], (), 0, []))
        self.assertTrue(lists.edition().same(EDITION))
        for name in ("a", "gen"):
            refused(self, NoList, {"found": name}, lists.places_of, name)

    def test_of_one(self):
        lists = Lists(EDITION)
        lists.put("x", some(3, 4, 8))
        self.assertEqual((lists.names(), lists.told(), len(lists)), (["x"], (("x", ((3, 4), (8, 8))),), 1))
        self.assertEqual([lists.holders(n) for n in (2, 3, 4, 8)], [[], ["x"], ["x"], ["x"]])
        self.assertEqual(lists.places_of("x"), some(3, 4, 8))
        self.assertIs(type(lists.places_of("x")), Places)

    def test_of_twenty(self):
        lists = twenty()
        self.assertEqual(lists.names(), NAMES)
        self.assertEqual(lists.told(), tuple([(name, ((k, k),)) for k, name in enumerate(NAMES)]))
        self.assertEqual(len(lists), 20)
        for name in reversed(NAMES):
            lists.add(name, some(25))
        self.assertEqual(lists.holders(25), NAMES)
        self.assertEqual(lists.holders(7), [NAMES[7]])
        for k, name in enumerate(NAMES):
            self.assertEqual(lists.places_of(name), some(k, 25))

    def test_the_kinds(self):
        lists = filled()
        told = lists.told()
        self.assertEqual((type(told), type(told[0]), type(told[0][1]), type(told[0][1][0])), (tuple,) * 4)
        self.assertEqual((type(lists.names()), type(lists.holders(2)), type(lists.edition())), (list, list, Edition))

    def test_holders_of_any_thing(self):
        lists = filled()
        self.assertEqual([lists.holders(n) for n in (0, 2, 3, 9, 26)], [["a"], ["a", "c"], ["c"], ["a"], []])
        for thing in NO_NUMBERS + (-1, 27, 10 ** 29, -10 ** 29, "0", all_of(EDITION)):
            self.assertEqual(lists.holders(thing), [])

    def test_places_of_refuses(self):
        lists = filled()
        for name in NO_NAMES:
            refused(self, NoName, {"found": name}, lists.places_of, name)
        for name in ("z", "aa", "gen"):
            refused(self, NoList, {"found": name}, lists.places_of, name)

    def test_told_and_changed_afterwards(self):
        lists = filled()
        before = lists.told()
        lists.names().clear()
        lists.holders(2).clear()
        self.assertEqual((lists.names(), lists.holders(2), lists.told()), (["a", "b", "c"], ["a", "c"], before))


class LedOver(unittest.TestCase):
    def lists(self):
        lists = Lists(ONE)
        lists.put("x", Places(ONE, [(0, 4)]))
        lists.put("y", Places(ONE, [(2, 3)]))
        lists.put("a", Places(ONE))
        return lists

    def test_over(self):
        lists = self.lists()
        for leading in (Leading(ONE, OTHER), Leading(Edition(ONE.told()[0]), OTHER)):
            told = lists.over(leading)
            self.assertIs(type(told), Lists)
            self.assertTrue(told.edition().same(OTHER))
            self.assertEqual(told.told(), (("x", ((3, 4), (7, 7))), ("y", ()), ("a", ())))
            self.assertTrue(told.places_of("x").edition().same(OTHER))
        self.assertEqual(lists.told(), (("x", ((0, 4),)), ("y", ((2, 3),)), ("a", ())))
        self.assertEqual(Lists(ONE).over(Leading(ONE, OTHER)).told(), ())

    def test_no_deed_to_go_back_or_forth(self):
        lists = self.lists()
        lists.back()
        for leading in (Leading(ONE, OTHER), Leading(ONE, ONE)):
            told = lists.over(leading)
            self.assertRaises(Unready, told.back)
            self.assertRaises(Unready, told.forth)
        lists.forth()
        self.assertEqual(lists.names(), ["x", "y", "a"])

    def test_nothing_in_common_that_changes(self):
        lists = self.lists()
        told = lists.over(Leading(ONE, ONE))
        told.drop("x")
        lists.rename("y", "z")
        self.assertEqual((lists.names(), told.names()), (["x", "z", "a"], ["y", "a"]))
        told.back()
        self.assertEqual(told.names(), ["x", "y", "a"])

    def test_no_leading(self):
        lists = self.lists()
        for thing in NO_NUMBERS + (ONE, (ONE, OTHER), lists, Places(ONE), Leading(OTHER, ONE), Leading(EDITION, ONE)):
            refused(self, NoLeading, {"found": thing}, lists.over, thing)


class Askers(unittest.TestCase):
    def test_any_thing(self):
        lists = filled()
        ask = lists.asker("a")
        self.assertEqual(list(inspect.signature(ask).parameters.values())[0].kind,
                         inspect.Parameter.POSITIONAL_OR_KEYWORD)
        for number in range(27):
            self.assertIs(ask(number), number in (0, 1, 2, 9))
            self.assertIs(lists.asker("b")(number), False)
        for thing in NO_NUMBERS + (-1, 27, 10 ** 29, "0", [0], (0,), all_of(EDITION)):
            self.assertIs(ask(thing), False)

    def test_behind_each_deed(self):
        lists = filled()
        ask, ask_c = lists.asker("a"), lists.asker("c")

        def asked():
            return [n for n in range(27) if ask(n)]

        for word, things, numbers in (
            ("add", ("a", some(4)), [0, 1, 2, 4, 9]), ("strike", ("a", some(0, 1, 2)), [4, 9]),
            ("put", ("a", some(5)), [5]),
            ("swap", ("a", "c"), [2, 3]), ("swap", ("b", "a"), []), ("put", ("d", some(8)), []), ("back", (), []),
            ("back", (), [2, 3]), ("back", (), [5]), ("forth", (), [2, 3]), ("drop", ("b",), [2, 3]),
            ("rename", ("c", "e"), [2, 3]),
        ):
            getattr(lists, word)(*things)
            self.assertEqual(asked(), numbers)
        refused(self, NoList, {"found": "c"}, ask_c, 2)
        self.assertIs(lists.asker("e")(5), True)

    def test_renamed_dropped_and_put_anew(self):
        lists = filled()
        name = "".join(["a"])
        ask = lists.asker(name)
        lists.rename("a", "z")
        for thing in (0, 5, None, [], "a"):
            refused(self, NoList, {"found": name}, ask, thing)
        self.assertIs(lists.asker("z")(0), True)
        lists.put("a", some(5))
        self.assertEqual((ask(5), ask(0)), (True, False))
        lists.drop("a")
        refused(self, NoList, {"found": name}, ask, 5)
        lists.back()
        self.assertIs(ask(5), True)
        lists.forth()
        refused(self, NoList, {"found": name}, ask, 5)
        lists.rename("z", "a")
        self.assertEqual((ask(5), ask(0)), (False, True))

    def test_of_a_twin(self):
        lists = filled()
        ask = lists.asker("a")
        twin = lists.twin()
        twin.put("a", some(26))
        self.assertEqual((ask(26), twin.asker("a")(26)), (False, True))
        lists.put("a", some(25))
        self.assertEqual((ask(25), twin.asker("a")(25)), (True, False))

    def test_refused_when_made(self):
        lists = filled()
        for name in NO_NAMES:
            refused(self, NoName, {"found": name}, lists.asker, name)
        refused(self, NoList, {"found": "z"}, lists.asker, "z")


if __name__ == "__main__":
    unittest.main()
