"""Leadings: which part of one edition is which part of another."""

from bookplaces.editions import check_edition
from bookplaces.errors import NoLeading, NoNumber, NoPlaces
from bookplaces.places import all_of, is_places_of, places_of_numbers, spot_places, stretch_text
from bookplaces.words import is_whole


class Leading:
    """The way from the parts of one edition to those of another, line by line; it never changes."""

    def __init__(self, one, other):
        check_edition(one)
        check_edition(other)
        self._one = one
        self._other = other
        self._ahead = parts_with_lines(other, one.lines())
        self._behind = parts_with_lines(one, other.lines())
        self._rows = rows_of(self._ahead)

    def editions(self):
        """The one edition and the other."""
        return self._one, self._other

    def goes_to(self, number):
        """The other's part to which a part of the one leads, or None."""
        return goal_at(self._ahead, number)

    def comes_from(self, number):
        """The one's part that leads to a part of the other, or None."""
        return goal_at(self._behind, number)

    def rows(self):
        """The fewest tuples (first, at, many) that tell where all parts of the one lead."""
        return list(self._rows)

    def over(self, places):
        """The places of the other to which places of the one lead."""
        return places_led(self._one, self._ahead, self._other, places)

    def back(self, places):
        """The places of the one that lead to places of the other."""
        return places_led(self._other, self._behind, self._one, places)

    def lacking(self):
        """The places of the one that lead to none."""
        return places_lost(self._one, self._ahead)

    def lacking_back(self):
        """The places of the other to which none lead."""
        return places_lost(self._other, self._behind)

    def verse(self, name, chapter, verse):
        """How a verse of the one is found in the other, a word, and in which verses."""
        many = self._one.parts(name, chapter, verse)
        found = self.over(spot_places(self._one, (name, chapter, verse)))
        spots = found.spots()
        if not spots:
            return "lacking", spots
        if len(spots) > 1:
            return "split", spots
        first, last = self._other.stretch(spots[0])
        return kind_of(many, len(found), last - first + 1), spots

    def verses(self):
        """All verses of the one in order, as tuples (spot, kind, spots)."""
        verses = []
        for spot in all_of(self._one).spots():
            kind, spots = self.verse(*spot)
            verses.append((spot, kind, spots))
        return verses

    def turned(self):
        """The leading from the other to the one."""
        return Leading(self._other, self._one)

    def __len__(self):
        return len(self._rows)

    def __eq__(self, thing):
        return isinstance(thing, Leading) and same_editions(self.editions(), thing.editions())

    def __str__(self):
        return " ".join([row_text(row) for row in self._rows])


def shows_rows(one, other, thing):
    """Whether thing is the list of the rows of the leading from one to the other."""
    rows = Leading(one, other).rows()
    if not isinstance(thing, list) or thing != rows:
        return False
    # Python takes True for 1, so that rows may be alike that are not these numbers.
    return not any([isinstance(number, bool) for row in thing for number in row])


def through(first, second, places):
    """The places to which places lead through two leadings."""
    check_leadings(first, second)
    return second.over(first.over(places))


def rows_through(first, second):
    """The rows of the way through two leadings."""
    check_leadings(first, second)
    one, _ = first.editions()
    goals = [first.goes_to(number) for number in range(one.size())]
    return rows_of([None if goal is None else second.goes_to(goal) for goal in goals])


def check_leading(thing):
    """Refuse what is no leading."""
    if not isinstance(thing, Leading):
        raise NoLeading(thing)


def check_leading_from(edition, thing):
    """Refuse what is no leading from an edition that is the same."""
    check_leading(thing)
    one, _ = thing.editions()
    if not edition.same(one):
        raise NoLeading(thing)


def check_leadings(first, second):
    """Refuse what is no leading, or a second one that doesn't begin where the first one ends."""
    check_leading(first)
    _, amid = first.editions()
    check_leading_from(amid, second)


def same_editions(some, others):
    """Whether two pairs of editions are the same, one by one."""
    return some[0].same(others[0]) and some[1].same(others[1])


def parts_with_lines(edition, lines):
    """For each line the number of the edition's part that has it, or None."""
    return [edition.part_of(line) for line in lines]


def goal_at(goals, number):
    """Where the part of this number leads, where all parts lead to these."""
    if not is_whole(number, 0, len(goals) - 1):
        raise NoNumber(number)
    return goals[number]


def places_led(edition, goals, other, places):
    """The places of the other edition to which places of an edition lead."""
    if not is_places_of(edition, places):
        raise NoPlaces(places)
    led = [goals[number] for number in places.numbers()]
    return places_of_numbers(other, [goal for goal in led if goal is not None])


def places_lost(edition, goals):
    """The places of an edition that lead to none."""
    return places_of_numbers(edition, [number for number, goal in enumerate(goals) if goal is None])


def rows_of(goals):
    """The rows of parts that lead to these parts, or to None."""
    rows = []
    for number, goal in enumerate(goals):
        if rows and goes_on(rows[-1], goal):
            first, at, many = rows.pop()
            rows.append((first, at, many + 1))
        else:
            rows.append((number, goal, 1))
    return rows


def goes_on(row, goal):
    """Whether the part right behind a row, which leads to this one, can be put to it."""
    _, at, many = row
    if at is None:
        return goal is None
    return goal == at + many


def row_text(row):
    """A row as a text: from where to where it leads."""
    first, at, many = row
    goal = "none" if at is None else stretch_text(at, at + many - 1)
    return f"{stretch_text(first, first + many - 1)}>{goal}"


def kind_of(many, found, there):
    """The word for a verse of many parts, of which so many are found in one verse, among all that are there."""
    if found == many:
        return "alike" if found == there else "within"
    return "short" if found == there else "crossing"
