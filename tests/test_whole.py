"""Points 4 to 9: what holds over the whole program, one question for each of its modules."""

import random
import unittest

from bookplaces.carrying import carried, misread
from bookplaces.changed import changed, renamed
from bookplaces.desk import Desk
from bookplaces.editions import Edition
from bookplaces.leading import Leading
from bookplaces.lists import Lists
from bookplaces.places import Places, numbered
from bookplaces.portions import greatest, is_parting, portions
from bookplaces.reading import read
from bookplaces.texts import edition_of, edition_text, lists_of, lists_text
from bookplaces.torn import Torn
from bookplaces.writing import full, is_shortest, shortest
from tests.checks import MIXED, outcome
from tests.leadings import ONE, OTHER, random_edition

EDITION = Edition(MIXED)


def anew(edition):
    """A same edition, made of lists and of lines one by one."""
    books, _ = edition.told()
    return Edition([(name, [list(verses) for verses in chapters]) for name, chapters in books],
                   [(line, 1) for line in edition.lines()])


def some_places(edition, chance):
    return numbered(edition, [n for n in range(edition.size()) if chance.random() < 0.5])


def filled(edition, chance):
    lists = Lists(edition)
    for name in chance.sample("abcdefgh", 4):
        lists.put(name, some_places(edition, chance))
    return lists


class Promise(unittest.TestCase):
    def test_line_by_line_there_and_back(self):
        chance = random.Random(8)
        for _ in range(40):
            one, other = random_edition(chance, 24), random_edition(chance, 24)
            leading, places = Leading(one, other), some_places(one, chance)
            over, lacking = carried(leading, full(places))
            there, here = read(other, over).places(), read(one, lacking).places()
            self.assertEqual(leading.turned().over(there).joined(here), places)
            self.assertEqual(len(leading.turned().over(there).met(here)), 0)
            self.assertTrue(is_shortest(there, over) and is_shortest(here, lacking))

    def test_written_and_read(self):
        chance = random.Random(9)
        for _ in range(40):
            edition = random_edition(chance, 30)
            lists = filled(edition, chance)
            lists.rename(lists.names()[0], "zz")
            kept = edition_of(edition_text(edition))
            self.assertTrue(kept.same(edition))
            self.assertEqual(lists_of(kept, lists_text(lists)).told(), lists.told())
            led = lists.over(Leading(edition, kept))
            self.assertEqual(led.told(), lists.told())
            self.assertTrue(led.edition().same(edition))

    def test_portions_of_any_places(self):
        chance = random.Random(10)
        for _ in range(40):
            places = some_places(random_edition(chance, 30), chance)
            for many in (1, 2, 3, 60):
                parts = portions(places, many)
                self.assertTrue(is_parting(places, parts))
                self.assertEqual(max([len(part) for part in parts]), greatest(places, many))
                self.assertEqual(parts[0].joined(places), places)

    def test_a_torn_shortest_writing_may_have_been_itself(self):
        chance = random.Random(11)
        for _ in range(40):
            places = some_places(random_edition(chance, 30), chance)
            text = shortest(places)
            if 0 < len(text) <= 30:
                at = chance.randrange(len(text))
                torn = Torn(places.edition(), text[:at] + "?" + text[at + 1:])
                self.assertTrue(torn.fits(text))
                self.assertIn(text, torn.ways(places))
                self.assertIn(text[at], torn.signs(at))
                self.assertTrue(torn.sure().within(places) and places.within(torn.perhaps()))


class SameEditions(unittest.TestCase):
    def test_made_anew_they_tell_the_same(self):
        chance = random.Random(4)
        for _ in range(30):
            one, other = random_edition(chance, 24), random_edition(chance, 24)
            places = some_places(one, chance)
            text = full(places)
            leadings = [Leading(one, other), Leading(anew(one), anew(other))]
            self.assertEqual(*[carried(leading, text) for leading in leadings])
            self.assertEqual(*[outcome(misread, leading, text) for leading in leadings])
            for many in (1, 3):
                self.assertEqual(portions(places, many), portions(Places(anew(one), places.runs()), many))
            lists = Lists(anew(one))
            lists.put("a", places)
            self.assertEqual(lists.over(leadings[0]).told(), lists.over(leadings[1]).told())
            names = dict(zip(one.names(), "xyz"))
            deeds = [("rename", names), ("lessen", [0]), ("reorder", list(names.values()))]
            self.assertEqual(outcome_of(changed, one, deeds), outcome_of(changed, anew(one), deeds))


def outcome_of(deed, edition, *things):
    """What the edition that a deed tells tells of itself, or its refusal."""
    told = outcome(deed, edition, *things)
    return told.told() if isinstance(told, Edition) else told


class OtherNames(unittest.TestCase):
    def test_all_is_told_likewise(self):
        # Names of as many letters in the same order, so that shortest writings are likewise, too.
        chance = random.Random(5)
        names = {"a": "b", "b": "c"}
        other_edition = renamed(ONE, names)
        for _ in range(40):
            places = some_places(ONE, chance)
            others = Places(other_edition, places.runs())
            # The letters of parts stand behind figures, those of names don't.
            written = shortest(places)
            words = [sign if at > 0 and written[at - 1].isdigit() else names.get(sign, sign)
                     for at, sign in enumerate(written)]
            self.assertEqual(shortest(others), "".join(words))
            for many in (1, 2, 3):
                self.assertEqual([part.runs() for part in portions(places, many)],
                                 [part.runs() for part in portions(others, many)])
            self.assertEqual(Leading(ONE, OTHER).over(places), Leading(other_edition, OTHER).over(others))
            lists = [Lists(ONE), Lists(other_edition)]
            for one, held in zip(lists, (places, others)):
                one.put("a", held)
            self.assertEqual(lists[0].told(), lists[1].told())
        self.assertEqual(Leading(ONE, OTHER).rows(), Leading(other_edition, OTHER).rows())


class NothingInCommon(unittest.TestCase):
    def test_what_is_handed_in_may_change_afterwards(self):
        books, lines = [("a", [[2, 1]]), ("b", [[1]])], [(3, 2), (0, 2)]
        edition = Edition(books, lines)
        pairs, numbers = [(0, 1), (3, 3)], [3, 0, 1]
        places, others = Places(edition, pairs), numbered(edition, numbers)
        order, names, gone = ["b", "a"], {"a": "c", "b": "d"}, [0]
        later = changed(edition, [("reorder", order), ("rename", names), ("lessen", gone)])
        thing = [places, Places(edition)]
        self.assertTrue(is_parting(places, thing))
        told = edition.told(), later.told(), places.runs(), others.runs()
        books[0][1][0].append(4)
        books.clear(), lines.clear(), pairs.clear(), numbers.clear(), order.clear(), names.clear(), gone.clear()
        self.assertEqual((edition.told(), later.told(), places.runs(), others.runs()), told)
        self.assertEqual(thing, [places, Places(edition)])

    def test_objects_made_alike_answer_alike(self):
        for _ in range(2):
            torn = [Torn(EDITION, "gen 1:?") for _ in range(2)]
            self.assertEqual(torn[0].sets(), torn[1].sets())
            self.assertEqual(torn[0].could(), torn[1].could())
            desks = [Desk(), Desk()]
            for line in ("edition a gen 01 12", "put x gen", "put y gen 1a", "text", "back", "lists", "portions 2 x"):
                self.assertEqual(desks[0].say(line), desks[1].say(line))

    def test_the_same_question_again(self):
        leading, torn, lists = Leading(ONE, OTHER), Torn(ONE, "a?2"), filled(ONE, random.Random(6))
        places = Places(ONE, [(0, 5), (8, 8)])
        for ask in (
            lambda: carried(leading, "a"), lambda: misread(Leading(ONE, ONE), "a"), lambda: torn.could(),
            lambda: torn.signs(1), lambda: torn.sets(), lambda: torn.sure(), lambda: torn.perhaps(),
            lambda: torn.mended(1, " ").could(), lambda: portions(places, 3), lambda: lists.told(),
            lambda: lists.names(), lambda: lists.holders(0), lambda: lists.twin().told(), lambda: lists_text(lists),
            lambda: edition_text(OTHER), lambda: changed(ONE, [("merge", ("a", 1, 1))]).told(),
        ):
            first = ask()
            second = ask()
            self.assertEqual(first, second)
            if isinstance(first, list):
                self.assertIsNot(first, second)
                first.clear()
                self.assertEqual(ask(), second)


if __name__ == "__main__":
    unittest.main()
