"""Points 47 and 48: writings that go on, and readers."""

import inspect
import random
import unittest

from bookplaces.editions import Edition
from bookplaces.errors import NoEdition, NoMark, NoSaid, NoWriting
from bookplaces.places import Places, all_of
from bookplaces.reading import read, reader
from tests.checks import MIXED, NO_NUMBERS, outcome, refused, unread
from tests.plain import Plain

BOOKS = (("a", ((2, 1, 1), (1, 1))), ("b", ((1, 3),)))
EDITION = Edition(BOOKS)
PLAIN = Plain(BOOKS)


def told(reading):
    return reading.stretches(), reading.spots(), reading.said()


class GoesOn(unittest.TestCase):
    def check(self, one, mark, two, said, first_mark):
        ahead = read(EDITION, one, said, first_mark)
        whole = outcome(read, EDITION, one + mark + two, said, first_mark)
        behind = outcome(read, EDITION, two, ahead.said(), mark)
        shift = len(one) + 1
        if isinstance(behind, tuple):
            kind, fields = behind
            self.assertEqual(whole, (kind, {"at": fields["at"] + shift, "why": fields["why"]}), (one, mark, two))
        else:
            moved = [(at + shift, spot) for at, spot in behind.spots()]
            self.assertEqual(told(whole), (
                ahead.stretches() + behind.stretches(), ahead.spots() + moved, behind.said()), (one, mark, two))
            self.assertEqual(whole.places(), ahead.places().joined(behind.places()))

    def test_written_by_hand(self):
        for one, mark, two in (
            ("a 1:2", ",", "3"), ("a 1:2", ";", "2"), ("a 1", ",", "2"), ("a 1:1-2", ",", "3;2"), ("b 1", ";", "2b-2c"),
            ("a", ";", "b,2-b"), ("a 1:2", ",", "4"), ("a 1:2", ";", "3,x"), ("a 1:2", ",", "2-1"), ("a 1:1-2", ",", "2-3-4"),
            ("a 1:2", ",", ",3"), ("a 1:2", ";", "-3"), ("b", ",", "3"), ("b", ",", "2-"), ("a 1:1-2", ",", "3-2:1,"),
        ):
            self.check(one, mark, two, None, ",")

    def test_cut_at_every_mark(self):
        text = "a 1:1b-2,3;2:1,2;b 1,2a-2c"
        for at, sign in enumerate(text):
            if sign in ",;":
                self.check(text[:at], sign, text[at + 1:], None, ",")

    def test_of_pieces(self):
        chance = random.Random(47)
        heard = [None] + sorted(PLAIN.spots)
        pieces = PLAIN.pieces() + ["", "x", "9", "a 9", "0"]
        checked = 0
        while checked < 3000:
            one, two = ["".join(chance.choice(pieces) + chance.choice(",;-") for _ in range(chance.randint(1, 3)))[:-1]
                        for _ in range(2)]
            said, first_mark = chance.choice(heard), chance.choice(",;")
            if one and two and not isinstance(outcome(read, EDITION, one, said, first_mark), tuple):
                self.check(one, chance.choice(",;"), two, said, first_mark)
                checked += 1


class Readers(unittest.TestCase):
    def test_a_function_of_one_text(self):
        ask = reader(EDITION)
        self.assertTrue(inspect.isfunction(ask))
        self.assertEqual(len(inspect.signature(ask).parameters), 1)
        self.assertIs(type(ask("a 1:2")), Places)
        self.assertEqual(ask("a 1:2-3,2:1").runs(), [(2, 4)])
        self.assertEqual(ask("").runs(), [])

    def test_behind_said_and_mark(self):
        for said, mark, text, runs in (
            (("a", 1, 2), ",", "3", [(3, 3)]), (("a", 1, 2), ";", "2", [(4, 5)]), (("a",), ",", "2", [(4, 5)]),
            (("b",), ",", "2b", [(8, 8)]), (("b", 1), ";", "1-2a", [(6, 7)]),
        ):
            for ask in (reader(EDITION, said, mark), reader(EDITION, mark=mark, said=said)):
                self.assertEqual(ask(text).runs(), runs)
                self.assertEqual(ask(text), read(EDITION, text, said, mark).places())

    def test_keeps_nothing_of_a_text(self):
        ask = reader(EDITION)
        ask("a 1:2")
        unread(self, 0, "said", ask, "3")
        ask = reader(EDITION, ("a", 1, 2))
        self.assertEqual(ask("b").runs(), [(6, 9)])
        self.assertEqual(ask("3").runs(), [(3, 3)])
        unread(self, 2, "book", ask, "b,x")
        self.assertEqual(ask("3").runs(), [(3, 3)])
        unread(self, 0, "form", ask, "-b")
        self.assertEqual(ask("1b").runs(), [(1, 1)])

    def test_asked_by_turns(self):
        readers = [reader(EDITION), reader(EDITION, ("a", 1, 2)), reader(EDITION, ("a", 1, 2), ";"),
                   reader(Edition(MIXED)), reader(EDITION, ("b",))]
        for _ in range(3):
            unread(self, 0, "said", readers[0], "2")
            self.assertEqual(readers[1]("2").runs(), [(2, 2)])
            self.assertEqual(readers[2]("2").runs(), [(4, 5)])
            self.assertEqual(readers[3]("gen 2:2-ex").runs(), [(8, 11)])
            self.assertEqual(readers[4]("2").runs(), [(7, 9)])
            unread(self, 4, "book", readers[1], "b 2,gen")

    def test_refused_as_a_writing(self):
        chance = random.Random(48)
        ask = reader(EDITION, ("a", 2, 1), ";")
        for _ in range(500):
            text = "".join(chance.choice("aabb1122 ::,;-") for _ in range(chance.randint(0, 6)))
            wanted = outcome(read, EDITION, text, ("a", 2, 1), ";")
            self.assertEqual(outcome(ask, text), wanted if isinstance(wanted, tuple) else wanted.places())
        for text in (None, True, 0, ["a"], ("a",), {}, EDITION):
            unread(self, 0, "text", ask, text)

    def test_refused_when_it_is_made(self):
        for thing in (None, True, "", BOOKS, [], all_of(EDITION)):
            refused(self, NoEdition, {"found": thing}, reader, thing)
            refused(self, NoEdition, {"found": thing}, reader, thing, "no said", "no mark")
        for said in (True, 0, "a", (), ["a"], ("x",), ("a", 3), ("a", 1, 1, 3), ([],), {}, EDITION):
            refused(self, NoSaid, {"found": said}, reader, EDITION, said)
            refused(self, NoSaid, {"found": said}, reader, EDITION, said, "no mark")
        for mark in NO_NUMBERS + ("-", " ", [","], (";",)):
            refused(self, NoMark, {"found": mark}, reader, EDITION, None, mark)

    def test_refusals_are_new_each_time(self):
        ask = reader(EDITION)
        errors = []
        for _ in range(2):
            with self.assertRaises(NoWriting) as caught:
                ask("x")
            errors.append(caught.exception)
        self.assertIsNot(errors[0], errors[1])


if __name__ == "__main__":
    unittest.main()
