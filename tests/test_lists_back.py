"""Points 103 and 105: deeds undone and done again, and twins."""

import random
import unittest

from bookplaces.editions import Edition
from bookplaces.errors import Doubled, NoList, NoName, NoPlaces, TooMany, Unready
from bookplaces.lists import Lists
from bookplaces.places import Places, numbered
from tests.checks import MIXED, refused

EDITION = Edition(MIXED)
REFUSALS = (Doubled, NoList, NoName, NoPlaces, TooMany)


def some(*numbers):
    return numbered(EDITION, numbers)


def put_many(many):
    """Lists behind so many deeds, and what was told behind none, one, .. all of them."""
    lists = Lists(EDITION)
    told = [lists.told()]
    for k in range(many):
        lists.put("a", some(k % 27))
        told.append(lists.told())
    return lists, told


class BackAndForth(unittest.TestCase):
    def test_of_none(self):
        lists = Lists(EDITION)
        for _ in range(2):
            refused(self, Unready, {}, lists.back)
            refused(self, Unready, {}, lists.forth)
        self.assertEqual(lists.told(), ())

    def test_each_deed(self):
        lists = Lists(EDITION)
        told = [lists.told()]
        for word, things in (
            ("put", ("a", some(1, 2))), ("put", ("b", some())), ("put", ("a", some(3))), ("add", ("b", some(3, 4))),
            ("strike", ("b", some(4))), ("swap", ("a", "b")), ("put", ("c", some(7))), ("rename", ("a", "z")),
            ("drop", ("b",)),
            ("put", ("b", some(9))),
            # Deeds by which nothing is otherwise than it was.
            ("put", ("b", some(9))), ("add", ("b", some(9))), ("add", ("b", some())), ("strike", ("b", some(1))),
            ("swap", ("b", "b")),
        ):
            self.assertIsNone(getattr(lists, word)(*things))
            told.append(lists.told())
        for _ in range(2):
            refused(self, Unready, {}, lists.forth)
            for before in reversed(told[:-1]):
                self.assertIsNone(lists.back())
                self.assertEqual(lists.told(), before)
            refused(self, Unready, {}, lists.back)
            for behind in told[1:]:
                self.assertIsNone(lists.forth())
                self.assertEqual(lists.told(), behind)

    def test_order_and_places_come_back(self):
        lists = Lists(EDITION)
        for name in "abc":
            lists.put(name, some(1))
        lists.drop("a")
        lists.put("a", some(2))
        lists.back()
        self.assertEqual(lists.names(), ["b", "c"])
        lists.back()
        self.assertEqual(lists.names(), ["a", "b", "c"])
        self.assertEqual(lists.places_of("a"), some(1))

    def test_60_and_61(self):
        for many in (59, 60, 61, 75, 130):
            lists, told = put_many(many)
            kept = min(many, 60)
            for k in range(kept):
                lists.back()
                self.assertEqual(lists.told(), told[many - 1 - k])
            for _ in range(2):
                refused(self, Unready, {}, lists.back)
            self.assertEqual(lists.told(), told[many - kept])
            for k in range(kept):
                lists.forth()
                self.assertEqual(lists.told(), told[many - kept + 1 + k])
            refused(self, Unready, {}, lists.forth)

    def test_a_deed_behind_some_that_were_undone(self):
        lists, told = put_many(61)
        for _ in range(5):
            lists.back()
        lists.put("b", some(4))
        refused(self, Unready, {}, lists.forth)
        for k in range(56):
            lists.back()
            self.assertEqual(lists.told(), told[56 - k])
        refused(self, Unready, {}, lists.back)
        lists.put("b", some(4))
        refused(self, Unready, {}, lists.forth)
        lists.back()
        self.assertEqual(lists.told(), told[1])
        refused(self, Unready, {}, lists.back)

    def test_a_deed_that_changes_nothing_forgets_too(self):
        lists, told = put_many(3)
        lists.back()
        lists.swap("a", "a")
        refused(self, Unready, {}, lists.forth)
        lists.back()
        self.assertEqual(lists.told(), told[2])
        lists.back()
        self.assertEqual(lists.told(), told[1])

    def test_a_refused_deed_among_them(self):
        lists, told = put_many(3)
        lists.back()
        for kind, word, things in (
            (NoName, "put", ("A", some())), (NoPlaces, "put", ("a", None)), (NoList, "add", ("z", some())),
            (NoList, "drop", ("z",)),
            (NoPlaces, "strike", ("a", Places(Edition([("a", [[1]])])))), (Doubled, "rename", ("a", "a")),
            (NoList, "swap", ("a", "z")),
        ):
            self.assertRaises(kind, getattr(lists, word), *things)
            self.assertEqual(lists.told(), told[2])
        lists.forth()
        self.assertEqual(lists.told(), told[3])
        refused(self, Unready, {}, lists.forth)
        lists.back()
        lists.back()
        self.assertEqual(lists.told(), told[1])


class Model:
    """What was told behind each deed: the sixty that can be undone, and those that can be done again."""

    def __init__(self, told):
        self.now, self.done, self.undone = told, [], []

    def did(self, told):
        self.done = (self.done + [self.now])[-60:]
        self.now, self.undone = told, []

    def step(self, ahead, behind):
        ahead.append(self.now)
        self.now = behind.pop()


def plainly(told, word, name, thing):
    """What is told behind a deed that isn't refused."""
    held = {list_name: [n for first, last in runs for n in range(first, last + 1)] for list_name, runs in told}
    if word == "rename":
        return tuple([(thing if list_name == name else list_name, runs) for list_name, runs in told])
    if word == "drop":
        return tuple([row for row in told if row[0] != name])
    if word == "swap":
        runs = dict(told)
        turned = {name: thing, thing: name}
        return tuple([(list_name, runs[turned.get(list_name, list_name)]) for list_name in runs])
    numbers = set(thing.numbers())
    old = set(held.get(name, []))
    held[name] = {"put": numbers, "add": old | numbers, "strike": old - numbers}[word]
    return tuple([(list_name, tuple(numbered(EDITION, sorted(left)).runs())) for list_name, left in held.items()])


class ByChance(unittest.TestCase):
    def test_as_told_plainly(self):
        chance = random.Random(103)
        names = [letter for letter in "abcdefghijklmnopqrstuvw"]
        for _ in range(15):
            lists = Lists(EDITION)
            model = Model(lists.told())
            for _ in range(150):
                word = chance.choice(("put", "put", "put", "add", "strike", "drop", "rename", "swap", "back", "back",
                "forth"))
                if word in ("back", "forth"):
                    ahead, behind = (model.undone, model.done) if word == "back" else (model.done, model.undone)
                    if behind:
                        getattr(lists, word)()
                        model.step(ahead, behind)
                    else:
                        self.assertRaises(Unready, getattr(lists, word))
                else:
                    name, other = chance.choice(names), chance.choice(names)
                    places = some(*[n for n in range(27) if chance.random() < 0.3])
                    things = {"drop": (name,), "rename": (name, other), "swap": (name, other)}.get(word, (name, places))
                    try:
                        getattr(lists, word)(*things)
                    except REFUSALS:
                        pass
                    else:
                        model.did(plainly(model.now, word, name, things[-1]))
                self.assertEqual(lists.told(), model.now)


class Twins(unittest.TestCase):
    def test_the_same_at_first(self):
        lists, told = put_many(3)
        lists.back()
        twin = lists.twin()
        self.assertIs(type(twin), Lists)
        self.assertTrue(twin.edition().same(EDITION))
        self.assertEqual((twin.told(), twin.names(), len(twin)), (lists.told(), ["a"], 1))
        for one in (twin, lists):
            one.forth()
            self.assertEqual(one.told(), told[3])
            for before in (told[2], told[1], told[0]):
                one.back()
                self.assertEqual(one.told(), before)
            refused(self, Unready, {}, one.back)

    def test_each_changed_behind(self):
        for first in (True, False):
            lists, told = put_many(4)
            lists.back()
            twin = lists.twin()
            one, other = (lists, twin) if first else (twin, lists)
            one.put("b", some(3))
            one.drop("a")
            self.assertEqual(other.told(), told[3])
            other.forth()
            self.assertEqual((other.told(), one.names()), (told[4], ["b"]))
            refused(self, Unready, {}, one.forth)
            for before in (told[3], told[2], told[1], told[0]):
                other.back()
                self.assertEqual(other.told(), before)
            self.assertEqual(one.names(), ["b"])
            one.back()
            one.back()
            self.assertEqual((one.told(), other.told()), (told[3], ()))

    def test_of_none_and_of_60_deeds(self):
        twin = Lists(EDITION).twin()
        refused(self, Unready, {}, twin.back)
        refused(self, Unready, {}, twin.forth)
        lists, told = put_many(61)
        twin = lists.twin()
        twin.put("a", some(26))
        for _ in range(60):
            lists.back()
            twin.back()
        self.assertEqual((lists.told(), twin.told()), (told[1], told[2]))
        refused(self, Unready, {}, twin.back)

    def test_a_twin_of_a_twin(self):
        lists, told = put_many(2)
        one, two = lists.twin(), lists.twin().twin()
        one.back()
        two.drop("a")
        self.assertEqual((lists.told(), one.told(), two.told()), (told[2], told[1], ()))


if __name__ == "__main__":
    unittest.main()
