"""Point 124: the lines of a desk that work on lists, and whole sessions held against the modules themselves."""

import random
import unittest

from bookplaces.carrying import carried
from bookplaces.changed import divided, lessened, merged
from bookplaces.desk import Desk
from bookplaces.editions import Edition
from bookplaces.errors import Doubled, NoEdition, NoList, NoNumber, NoText, NoWriting, TooMany, Unready
from bookplaces.leading import Leading
from bookplaces.lists import Lists
from bookplaces.places import combined
from bookplaces.portions import portions
from bookplaces.reading import read
from bookplaces.texts import edition_of, lists_of, lists_text
from bookplaces.writing import shortest
from tests.checks import outcome
from tests.desks import DeskTests, desk, history

NAMES = [letter * 2 for letter in "abcdefghijklmnopqrst"]


class Deeds(DeskTests):
    def test_put_add_strike(self):
        made = desk()
        self.answers(
            made, ("put a gen 1", "7"), ("put b", "0"), ("lists", "a / b"), ("add b ex,gen 2:1", "2"),
            ("tell b", "gen 2:1,ex"), ("add a gen 1:1", "7"),
            ("strike a gen 1:2-3", "2"), ("tell a", "gen 1:1"), ("strike a ex", "2"), ("put a gen-ex", "12"),
            ("lists", "a / b"), ("strike a gen", "1"),
            ("tell a", "ex"), ("strike a", "1"), ("add a", "1"), ("strike a ex", "0"), ("tell a", "none"),
        )

    def test_drop_rename_swap(self):
        made = desk("put a gen 1", "put b ex", "put c")
        self.answers(
            made, ("swap a b", "ok"), ("text", "a ex / b gen 1 / c"), ("rename a z", "ok"), ("lists", "z / b / c"),
            ("swap z z", "ok"), ("drop b", "ok"),
            ("text", "z ex / c"), ("swap c z", "ok"), ("text", "z / c ex"), ("drop z", "ok"), ("drop c", "ok"),
            ("lists", "none"), ("text", "none"),
        )
        self.assertEqual(history(made), (10, 0))

    def test_back_and_forth(self):
        made = desk("put a gen 1", "put b ex", "add a gen 2")
        self.answers(
            made, ("back", "ok"), ("tell a", "gen 1"), ("back", "ok"), ("lists", "a"), ("forth", "ok"),
            ("lists", "a / b"), ("back", "ok"), ("back", "ok"),
            ("lists", "none"), ("forth", "ok"), ("put c ex", "1"), ("lists", "a / c"),
        )
        self.refuses(made, ("forth", Unready))
        self.answers(made, ("back", "ok"), ("back", "ok"))
        self.refuses(made, ("back", Unready))
        self.refuses(desk(), ("back", Unready), ("forth", Unready))

    def test_sixty_deeds(self):
        made = desk(*[f"{deed} {name}{rest}" for deed, rest in (("put", " gen 1:1"), ("add", " ex"), ("strike", " ex"))
                      for name in NAMES])
        self.assertEqual(history(made), (60, 0))
        made.say("drop aa")
        self.assertEqual(history(made), (60, 0))

    def test_twenty_and_a_twenty_first(self):
        made = desk(*[f"put {name} ex" for name in NAMES])
        self.answers(made, ("lists", " / ".join(NAMES)), ("holders 11", " / ".join(NAMES)), ("put aa gen", "11"))
        self.refuses(made, ("put zz ex", TooMany, 21), ("put zz zzz", NoWriting, 0, "book"))

    def test_refused(self):
        made = desk("put a gen", "put b ex", "put c", "back")
        self.refuses(
            made, ("put a A", NoWriting, 0, "form"), ("add z zzz", NoWriting, 0, "book"),
            ("strike z 1", NoWriting, 0, "said"), ("add z gen", NoList, "z"),
            ("strike z", NoList, "z"), ("drop z", NoList, "z"), ("drop c", NoList, "c"), ("rename z a", NoList, "z"),
            ("rename z z", NoList, "z"),
            ("rename a b", Doubled, "b"), ("rename a a", Doubled, "a"), ("swap z a", NoList, "z"),
            ("swap a z", NoList, "z"), ("swap y z", NoList, "y"),
            ("tell z", NoList, "z"), ("join z a", NoList, "z"), ("join a z", NoList, "z"), ("meet y z", NoList, "y"),
            ("leave a y", NoList, "y"),
            ("apart z z", NoList, "z"), ("portions 3 z", NoList, "z"), ("portions 61 z", NoList, "z"),
            ("portions 61 a", NoNumber, 61),
            ("portions " + "9" * 30 + " a", NoNumber, 10 ** 30 - 1), ("over three", NoEdition, "three"),
        )


class Told(DeskTests):
    def test_lists_tell_holders(self):
        made = desk("put a gen 1", "put b", "put c gen 1:3-ex")
        self.answers(
            made, ("lists", "a / b / c"), ("tell a", "gen 1"), ("tell b", "none"), ("tell c", "gen 1:3-ex"),
            ("holders 0", "a"), ("holders 3", "a / c"),
            ("holders 11", "c"), ("holders 12", "none"), ("holders " + "9" * 30, "none"),
            ("text", "a gen 1 / b / c gen 1:3-ex"),
        )
        self.answers(desk(), ("lists", "none"), ("text", "none"), ("holders 0", "none"))

    def test_two_lists(self):
        made = desk("put a gen 1", "put b gen 1:3-2:1", "put c")
        self.answers(
            made, ("join a b", "gen 1-2:1"), ("meet a b", "gen 1:3"), ("leave a b", "gen 1:1-2"),
            ("leave b a", "gen 2:1"), ("apart a b", "gen 1:1-2,2:1"),
            ("join a c", "gen 1"), ("meet a c", "none"), ("leave c a", "none"), ("apart c c", "none"),
            ("join a a", "gen 1"), ("apart b a", "gen 1:1-2,2:1"),
            ("lists", "a / b / c"), ("tell a", "gen 1"),
        )

    def test_portions(self):
        made = desk("put a gen-ex", "put b gen 1:3a,2:2", "put c")
        self.answers(
            made, ("portions 1 a", "gen-ex"), ("portions 3 a", "gen 1:1-2 / gen 1:3-2:1 / gen 2:2-ex"),
            ("portions 2 b", "gen 1:3a / gen 2:2"), ("portions 3 b", "gen 1:3a / gen 2:2 / none"),
            ("portions 2 c", "none / none"),
            ("portions 60 c", " / ".join(["none"] * 60)),
        )


class OverTextLoad(DeskTests):
    def test_over(self):
        made = desk("use two", "put z lev", "use one", "put a gen 1", "put b ex", "put c gen 2:2", "back")
        self.answers(made, ("over two", "ok"), ("lists", "a / b"), ("use two", "ok"), ("text", "a gen 1-2:1 / b"))
        self.assertEqual(history(made), (0, 0))
        self.answers(made, ("drop a", "ok"), ("use one", "ok"), ("text", "a gen 1 / b ex"))
        self.assertEqual(history(made), (2, 1))

    def test_over_to_the_edition_in_use(self):
        made = desk("put a gen 1", "put b ex", "back")
        self.answers(made, ("over one", "ok"), ("text", "a gen 1"))
        self.assertEqual(history(made), (0, 0))

    def test_over_has_nothing_in_common(self):
        made = desk("put a gen 1", "over two", "add a ex", "use two")
        self.answers(made, ("tell a", "gen 1-2:1"), ("strike a gen", "0"), ("use one", "ok"), ("tell a", "gen 1,ex"))

    def test_load(self):
        made = desk("put z gen")
        self.answers(
            made, ("load a gen 1 / b / c ex,gen 2", "3"), ("text", "a gen 1 / b / c gen 2-ex"), ("back", "ok"),
            ("lists", "a / b"), ("forth", "ok"),
            ("load a gen\nb ex\n", "2"), ("text", "a gen / b ex"), ("load", "0"), ("lists", "none"), ("load x", "1"),
            ("lists", "x"),
        )
        self.assertEqual(history(made), (1, 0))
        self.answers(made, ("load " + " / ".join(NAMES), "20"), ("lists", " / ".join(NAMES)))
        self.assertEqual(history(made), (20, 0))

    def test_load_refuses(self):
        made = desk("put a gen", "put b ex", "back")
        self.refuses(
            made, ("load A", NoText, 0), ("load a gen / a", NoText, 1), ("load a / zz /", NoWriting, 0, "form"),
            ("load a / / b", NoText, 1), ("load / a", NoText, 0),
            ("load a gen / b zzz / C", NoWriting, 0, "book"), ("load a gen,A", NoWriting, 4, "form"),
            ("load " + " / ".join(NAMES + ["zz"]), NoText, 20),
            ("load a gen 1 2", NoWriting, 0, "form"), ("load \n", NoText, 0),
        )

    def test_text_and_load_lead_back(self):
        made = desk("put a gen 1:1a,2", "put b", "put c ex")
        text = made.say("text")
        self.answers(made, ("load " + text, "3"), ("text", text), ("use two", "ok"), ("load a gen", "1"),
                     ("use one", "ok"), ("text", text))


class Model:
    """Editions and lists as a desk keeps them, asked by the modules themselves."""

    def __init__(self):
        self.editions, self.lists, self.used = {}, {}, None

    def edition(self):
        return self.editions[self.used]

    def mine(self):
        return self.lists[self.used]

    def become(self, edition):
        self.lists[self.used] = self.mine().over(Leading(self.edition(), edition))
        self.editions[self.used] = edition
        return [str(edition.size())]

    def rows(self, word, *things):
        """The rows of an answer, or a refusal, of the lines that the sessions say."""
        if word == "edition":
            edition = edition_of(things[1].replace(" / ", "\n"))
            self.editions[things[0]], self.lists[things[0]], self.used = edition, Lists(edition), things[0]
            return [str(edition.size())]
        edition, lists = self.edition(), self.mine()
        if word in ("merge", "divide"):
            spot = (things[0], int(things[1]), int(things[2]))
            return self.become(merged(edition, spot) if word == "merge" else divided(edition, spot, int(things[3])))
        if word == "lessen":
            return self.become(lessened(edition, read(edition, things[0]).places()))
        if word in ("put", "add", "strike"):
            getattr(lists, word)(things[0], read(edition, things[1]).places())
            return [str(len(lists.places_of(things[0])))]
        if word in ("drop", "rename", "swap", "back", "forth"):
            getattr(lists, word)(*things)
            return ["ok"]
        if word in ("join", "meet", "leave", "apart"):
            return [shortest(combined(word, *[lists.places_of(name) for name in things]))]
        if word == "portions":
            return [shortest(portion) for portion in portions(lists.places_of(things[1]), int(things[0]))]
        return self.more_rows(word, *things)

    def more_rows(self, word, *things):
        edition, lists = self.edition(), self.mine()
        if word == "lead":
            return list(carried(Leading(edition, self.editions[things[0]]), things[1]))
        if word == "over":
            self.lists[things[0]] = lists.over(Leading(edition, self.editions[things[0]]))
            return ["ok"]
        if word == "load":
            self.lists[self.used] = lists_of(edition, things[0].replace(" / ", "\n"))
            return [str(len(self.mine()))]
        if word == "use":
            self.used = things[0]
            return ["ok"]
        return lists_text(lists).split("\n")


class Sessions(DeskTests):
    WRITINGS = ("", "gen", "ex", "lev", "gen 1", "gen 1:1,3", "gen 2:1-ex", "gen 1:1a", "gen 1:2-2", "lev,gen 1", "A",
    "zz 1", "gen 1:3b")

    def line(self, chance):
        """The words of a line by chance, the last one a text where there is one."""
        name, other = chance.choice("abc"), chance.choice("abc")
        edition, writing = chance.choice(("one", "two")), chance.choice(self.WRITINGS)
        verse = [chance.choice(("gen", "lev", "ex")), str(chance.randint(1, 2)), str(chance.randint(1, 4))]
        return chance.choice((
            ["put", name, writing], ["put", name, writing], ["add", name, writing], ["strike", name, writing],
            ["drop", name], ["rename", name, other],
            ["swap", name, other], ["back"], ["back"], ["forth"],
            [chance.choice(("join", "meet", "leave", "apart")), name, other],
            ["portions", str(chance.randint(1, 4)), name], ["lead", edition, writing], ["over", edition],
            ["use", edition], ["text"], ["text"],
            ["load", f"a {writing or 'gen'} / {other}"], ["merge", *verse], ["divide", *verse, "1"],
            ["lessen", chance.choice(("", "gen 1:1a"))],
        ))

    def test_by_chance(self):
        chance = random.Random(124)
        refused = answered = 0
        for _ in range(25):
            made, model = Desk(), Model()
            for line in ("edition two gen 01 4 / gen 02 31 / lev 01 31 / = 3-6 0-2 20 7-10",
                         "edition one gen 01 214 / gen 02 13 / ex 01 1"):
                words = line.split(" ", 2)
                self.assertEqual(made.say(line), model.rows(*words)[0])
            for _ in range(120):
                words = self.line(chance)
                told = outcome(model.rows, *words)
                if isinstance(told, list):
                    told = " / ".join([row or "none" for row in told])
                    answered += 1
                else:
                    refused += 1
                # A text without signs has no blank ahead of it.
                self.assertEqual(outcome(made.say, " ".join(words).rstrip(" ")), told, words)
                self.assertEqual(made.say("text"), lists_text(model.mine()).replace("\n", " / ") or "none")
        self.assertTrue(refused > 300 and answered > 1000)
        self.assertIsInstance(model.edition(), Edition)


if __name__ == "__main__":
    unittest.main()
