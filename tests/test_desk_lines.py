"""Points 120 and 121: what is a line, what is refused ahead of all else, and how answers are written."""

import unittest

from bookplaces.answers import ANSWERS
from bookplaces.desk import FORMS as DESK_FORMS
from bookplaces.desk import Desk
from bookplaces.editions import Edition
from bookplaces.errors import NoEdition, NoLine, Unready
from bookplaces.places import all_of
from tests.checks import MIXED, NO_NUMBERS, outcome, refused
from tests.desks import FORMS, WORDS, desk, good_line, history, look

NO_NAMES = ("A", "abcdefg", "a1", "a-b", "1", "/", "a\n", "\n", "a,b", "Two", "none!")
NO_FIGURES = ("00", "01", "007", "+1", "-1", "1a", "a", "1,2", "1:1", "\n", "1\n", "/", "one", "1.0", "1" * 31, "0" * 2,
"_1", "1_0")


def variant(word, at, other):
    """A good line with another word in the place of one behind the first one."""
    words = good_line(word).split(" ")
    words[1 + at] = other
    return " ".join(words)


class Lines(unittest.TestCase):
    def no_line(self, *things):
        for thing in things:
            for made in (Desk(), desk("put a gen", "put b ex")):
                before = look(made)
                refused(self, NoLine, {"found": thing}, made.say, thing)
                self.assertEqual(look(made), before)

    def test_the_words_are_just_these(self):
        self.assertEqual(sorted(FORMS), sorted(DESK_FORMS))
        self.assertEqual(sorted(FORMS), sorted(ANSWERS))
        self.assertEqual({word: tuple(form.split()) for word, form in DESK_FORMS.items()}, FORMS)

    def test_things_that_are_no_text(self):
        self.no_line(*[thing for thing in NO_NUMBERS if not isinstance(thing, str)])
        self.no_line(0, ["lists"], ("lists",), ["use", "one"], {"lists": 1}, all_of(Edition(MIXED)), Desk())

    def test_no_first_word(self):
        self.no_line("", " ", "  ", "\n", "/", "List", "list", "LISTS", "lists\n", "\nlists", "lists,", "Show", "one",
                     "gen", "gen 1:1", "help",
                     "say", "use/one", "edition-one", "quit", "1", "0", "NAME", "twin", "holder 1", "divided gen 1 1 1")

    def test_a_word_too_few_or_too_many(self):
        for word, kinds in FORMS.items():
            line = good_line(word)
            words = line.split(" ")
            if "TEXT" in kinds:
                # Where the text is left out it has no signs: a word ahead of it must be wanting, too.
                for many in range(1, len(kinds)):
                    self.no_line(" ".join(words[:many]))
                continue
            for many in range(1, len(words)):
                self.no_line(" ".join(words[:many]))
            for more in ("a", "1", "gen", "/", word):
                self.no_line(line + " " + more)

    def test_blanks(self):
        for word in FORMS:
            line = good_line(word)
            self.no_line(" " + line, line + " ", "  " + line, line + "  ", line + " \n ")
            for at, sign in enumerate(line):
                if sign == " ":
                    self.no_line(line[:at] + " " + line[at:])
        # A line feed is no blank.
        self.no_line("use\none", "read\ngen", "put a\ngen", "rename a\nb", "merge gen 1\n1")
        self.no_line("read gen  1", "edition a gen  01 1", "edition a gen 01 1 /  gen 02 1", "put a gen  ", "load  a")

    def test_no_name(self):
        for word, kinds in FORMS.items():
            for at, kind in enumerate(kinds):
                if kind in ("NAME", "OTHER"):
                    self.no_line(*[variant(word, at, other) for other in NO_NAMES])

    def test_no_number(self):
        for word, kinds in FORMS.items():
            for at, kind in enumerate(kinds):
                if kind in ("NUMBER", "CHAPTER", "VERSE", "MANY"):
                    self.no_line(*[variant(word, at, other) for other in NO_FIGURES])
                if kind in ("CHAPTER", "VERSE", "MANY"):
                    self.no_line(variant(word, at, "0"))

    def test_numbers_of_thirty_figures_are_numbers(self):
        for word, kinds in FORMS.items():
            for at, kind in enumerate(kinds):
                if kind in ("NUMBER", "CHAPTER", "VERSE", "MANY"):
                    told = outcome(desk("put a gen").say, variant(word, at, "9" * 30))
                    self.assertNotEqual(told[0], NoLine)

    def test_a_book_is_any_word(self):
        for word in ("A", "abcdefg", "1", "/", "\n", "a\nb", ":", "gen,"):
            for line in (f"merge {word} 1 1", f"divide {word} 1 1 1", f"verse two {word} 1 1"):
                kind, fields = outcome(desk().say, line)
                self.assertEqual((kind.__name__, fields), ("NoBook", {"found": word}))

    def test_a_text_may_be_without_signs(self):
        for line, answer in (
            ("read", "none"), ("short", "none"), ("full", "none"), ("verses", "none"), ("torn", "none"),
            ("lessen", "12"),
            ("lead two", "none / none"), ("misread two", "none / none / none"), ("put a", "0"), ("load", "0"),
        ):
            self.assertEqual(desk().say(line), answer)
        self.assertEqual(desk("put a gen").say("add a"), "11")
        self.assertEqual(desk("put a gen").say("strike a"), "11")

    def test_a_text_has_all_words_behind(self):
        made = desk()
        self.assertEqual(made.say("read gen 1"), "0-6")
        kind, fields = outcome(made.say, "read gen 1 1")
        self.assertEqual((kind.__name__, fields), ("NoWriting", {"at": 0, "why": "form"}))
        kind, fields = outcome(made.say, "read gen,/ 1")
        self.assertEqual((kind.__name__, fields), ("NoWriting", {"at": 4, "why": "form"}))
        kind, fields = outcome(made.say, "read gen\n")
        self.assertEqual((kind.__name__, fields), ("NoWriting", {"at": 0, "why": "form"}))

    def test_unready(self):
        for word in FORMS:
            if word not in ("edition", "use", "editions"):
                made = Desk()
                refused(self, Unready, {}, made.say, good_line(word))
                # Ahead of all but NoLine: of an OTHER that isn't kept, of a writing, of a name.
                bad_line = good_line(word) + " "
                refused(self, NoLine, {"found": bad_line}, made.say, bad_line)
                self.assertEqual(made.say("editions"), "none")
        for line in ("read A", "put a zzz", "place 999", "over zzz", "torn ???", "load x\nx", "merge zzz 9 9"):
            refused(self, Unready, {}, Desk().say, line)
        self.assertEqual(Desk().say("editions"), "none")
        kind, fields = outcome(Desk().say, "edition a")
        self.assertEqual((kind.__name__, fields), ("NoText", {"line": 0}))

    def test_no_other(self):
        for line in ("verse three zzz 99 99", "verse three gen 1 1", "lead three zzz", "lead three gen",
                     "misread three zzz", "misread three",
                     "rows three", "over three", "lead thre gen", "rows tw"):
            made = desk("put a gen")
            before = look(made), history(made)
            kind, fields = outcome(made.say, line)
            self.assertEqual((kind, fields), (NoEdition, {"found": line.split(" ")[1]}))
            self.assertEqual((look(made), history(made)), before)
        kind, fields = outcome(Desk().say, "use one")
        self.assertEqual((kind, fields), (NoEdition, {"found": "one"}))
        kind, fields = outcome(desk().say, "use three")
        self.assertEqual((kind, fields), (NoEdition, {"found": "three"}))

    def test_good_lines_are_lines(self):
        for word in FORMS:
            told = outcome(desk("put a gen").say, good_line(word))
            self.assertNotEqual(told[0], NoLine)
        self.assertEqual(sorted(WORDS), sorted({kind for kinds in FORMS.values() for kind in kinds}))


class Answers(unittest.TestCase):
    def test_none_where_there_is_no_row(self):
        made = desk()
        for line in ("lists", "holders 0", "holders 99", "torn zzz", "verses"):
            self.assertEqual(made.say(line), "none")

    def test_none_where_a_row_has_no_signs(self):
        made = desk("put a", "put b gen 1:1", "use two", "use one")
        for line, answer in (
            ("text", "a / b gen 1:1"), ("tell a", "none"), ("meet a b", "none"), ("portions 1 a", "none"),
            ("portions 3 a", "none / none / none"),
            ("portions 3 b", "gen 1:1 / none / none"), ("lead two ex", "none / ex"),
            ("lead two gen 1:1", "gen 2:1a-1b / none"),
            ("misread two gen 1:1", "none / gen 2:1a-1b / gen 1"), ("torn", "none"), ("read", "none"),
        ):
            self.assertEqual(made.say(line), answer)

    def test_several_rows(self):
        made = desk("put a", "put b", "put c")
        self.assertEqual(made.say("lists"), "a / b / c")
        self.assertEqual(made.say("editions"), "two / one")
        self.assertEqual(made.say("portions 2 a"), "none / none")

    def test_places_by_their_own_edition(self):
        # Of a book of one chapter a number is a verse, of others a chapter.
        made = Desk()
        for line in ("edition far gen 01 1111", "edition near gen 01 1 / gen 02 1 / gen 03 11"):
            made.say(line)
        self.assertEqual(made.say("verse far gen 2 1"), "alike / gen 2")
        self.assertEqual(made.say("verse far gen 3 2"), "alike / gen 4")
        self.assertEqual(made.say("lead far gen 3:2"), "gen 4 / none")
        made.say("use far")
        self.assertEqual(made.say("verse near gen 1 4"), "alike / gen 3:2")
        self.assertEqual(made.say("lead near gen 4"), "gen 3:2 / none")

    def test_two_desks_have_nothing_in_common(self):
        one, other = desk("put a gen"), desk()
        one.say("put b ex")
        one.say("lessen gen 1:1")
        one.say("edition three x 01 1")
        self.assertEqual(other.say("lists"), "none")
        self.assertEqual(other.say("editions"), "two / one")
        self.assertEqual(other.say("show"), "gen 01 214 / gen 02 13 / ex 01 1")
        self.assertEqual(Desk().say("editions"), "none")


if __name__ == "__main__":
    unittest.main()
