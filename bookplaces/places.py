"""Places: sets of parts of one edition, and what is made of several of them."""

from bookplaces.editions import check_edition
from bookplaces.errors import NoDeed, NoNumber, NoPlaces
from bookplaces.words import is_number, is_row, is_tuple, is_whole

MOST_PAIRS = 400
MOST_MEMBERS = 500


class Places:
    """A set of parts of an edition, perhaps of none; it never changes."""

    def __init__(self, edition, pairs=None):
        check_edition(edition)
        self._edition = edition
        self._numbers = numbers_in(kept_pairs(pairs, edition.size()))
        self._runs = runs_of(self._numbers)
        self._held = {number: True for number in self._numbers}

    def edition(self):
        """The edition of which these are places."""
        return self._edition

    def runs(self):
        """The longest stretches of parts side by side, as (first, last), rising."""
        return list(self._runs)

    def numbers(self):
        """The numbers of all parts, rising."""
        return list(self._numbers)

    def has(self, number):
        """Whether thing is the number of one of the parts."""
        # Ahead of the look-up: True would be found as 1, and a list can't be looked up.
        return is_number(number) and number in self._held

    def spots(self):
        """The verses of which at least one part is in, each once, in order."""
        # The keys of a dict stand as they came, and each once.
        return list({self._edition.verse_of(number): True for number in self._numbers})

    def whole(self, spot):
        """Whether all parts of the spot are in."""
        first, last = self._edition.stretch(spot)
        return any([low <= first and last <= high for low, high in self._runs])

    def kth(self, k):
        """The number of the part ahead of which k of these parts stand."""
        if not is_whole(k, 0, len(self._numbers) - 1):
            raise NoNumber(k)
        return self._numbers[k]

    def rank(self, number):
        """How many of the parts have a lower number."""
        if not is_number(number):
            raise NoNumber(number)
        return len([held for held in self._numbers if held < number])

    def joined(self, other):
        """The parts that are in these places, in the others, or in both."""
        self._check_other(other)
        return places_of_numbers(self._edition, self._numbers + other.numbers())

    def met(self, other):
        """The parts that are in both."""
        self._check_other(other)
        return places_of_numbers(self._edition, [number for number in self._numbers if other.has(number)])

    def without(self, other):
        """The parts of these places that are not in the others."""
        self._check_other(other)
        return places_of_numbers(self._edition, [number for number in self._numbers if not other.has(number)])

    def apart(self, other):
        """The parts that are in just one of both."""
        return self.without(other).joined(other.without(self))

    def rest(self):
        """All parts of the edition that are not in these places."""
        return all_of(self._edition).without(self)

    def within(self, other):
        """Whether each of the parts is in the other places."""
        self._check_other(other)
        return all([other.has(number) for number in self._numbers])

    def __len__(self):
        return len(self._numbers)

    def __eq__(self, other):
        return is_places_of(self._edition, other) and self._numbers == other.numbers()

    def __str__(self):
        return str(runs_text(self._runs))

    def __repr__(self):
        return f"Places({runs_text(self._runs)})"

    def _check_other(self, other):
        """Refuse what is no places of a same edition."""
        if not is_places_of(self._edition, other):
            raise NoPlaces(other)


def combined(deed, one, other):
    """The places that come of two by the word of a deed."""
    if deed not in ("join", "meet", "leave", "apart"):
        raise NoDeed(deed)
    check_places(one)
    if deed == "join":
        return one.joined(other)
    if deed == "meet":
        return one.met(other)
    if deed == "leave":
        return one.without(other)
    return one.apart(other)


def all_of(edition):
    """The places of all parts of an edition."""
    check_edition(edition)
    return Places(edition, [(0, edition.size() - 1)])


def spot_places(edition, spot):
    """The places of a spot's parts."""
    check_edition(edition)
    return Places(edition, [edition.stretch(spot)])


def numbered(edition, numbers):
    """The places of the parts of these numbers, which stand in any order."""
    check_edition(edition)
    if not is_row(numbers, 0, MOST_MEMBERS):
        raise NoPlaces(numbers)
    for number in numbers:
        if not is_whole(number, 0, edition.size() - 1):
            raise NoNumber(number)
    return places_of_numbers(edition, numbers)


def united(edition, some):
    """The places of the parts that are in one of some places at least."""
    check_edition(edition)
    if not is_row(some, 0, MOST_MEMBERS):
        raise NoPlaces(some)
    for member in some:
        if not is_places_of(edition, member):
            raise NoPlaces(member)
    return places_of_stretches(edition, [run for member in some for run in member.runs()])


def places_of_numbers(edition, numbers):
    """The places of these numbers of parts, in any order, perhaps some more than once."""
    return places_of_stretches(edition, [(number, number) for number in numbers])


def places_of_stretches(edition, stretches):
    """The places of these stretches, of which there may be more than places are made of."""
    return Places(edition, runs_of(numbers_in(stretches)))


def check_places(thing):
    """Refuse what is no places."""
    if not isinstance(thing, Places):
        raise NoPlaces(thing)


def is_places_of(edition, thing):
    """Whether thing is places of an edition that is the same."""
    return isinstance(thing, Places) and edition.same(thing.edition())


def kept_pairs(pairs, size):
    """The pairs as a list of one's own, refused where they tell no parts of so many."""
    if pairs is None:
        return []
    if not is_row(pairs, 0, MOST_PAIRS):
        raise NoPlaces(pairs)
    for pair in pairs:
        if not is_stretch(pair, size):
            raise NoPlaces(pair)
    return list(pairs)


def is_stretch(thing, size):
    """Whether thing is a tuple of the first and the last part of a stretch among so many parts."""
    return is_tuple(thing, 2, 2) and is_whole(thing[0], 0, size - 1) and is_whole(thing[1], thing[0], size - 1)


def numbers_in(stretches):
    """The numbers that lie in some of these stretches, rising, each once."""
    numbers = []
    for first, last in sorted(stretches):
        # All from this first number to the last one found are found already.
        unfound = numbers[-1] + 1 if numbers else 0
        numbers.extend(list(range(max(first, unfound), last + 1)))
    return numbers


def runs_of(numbers):
    """The runs of rising numbers, as tuples of the first and the last one."""
    runs = []
    for number in numbers:
        if runs and number == runs[-1][1] + 1:
            first, _ = runs.pop()
            runs.append((first, number))
        else:
            runs.append((number, number))
    return runs


def runs_text(runs):
    """Runs as a text, with one blank between; `none` where there is no run."""
    return " ".join([stretch_text(first, last) for first, last in runs]) or "none"


def stretch_text(first, last):
    """A stretch as a text: both of its ends, or one number where it is one part."""
    return f"{first}" if first == last else f"{first}-{last}"
