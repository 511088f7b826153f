"""Torn writings: what they may have been, and what was meant by them."""

from bookplaces.editions import check_edition
from bookplaces.errors import NoMark, NoNumber, NoPlaces, NoTorn
from bookplaces.places import Places, is_places_of, places_of_stretches
from bookplaces.reading import places_read
from bookplaces.words import is_made_of, is_whole

TEAR = "?"
MOST_SIGNS = 30
MOST_TEARS = 2

# Rising, as Python compares texts.
SIGNS = " ,-0123456789:;abcdefghijklmnopqrstuvwxyz"


class Torn:
    """A text of which some signs can't be read any more; it never changes."""

    def __init__(self, edition, text):
        check_edition(edition)
        if not is_torn(text):
            raise NoTorn(text)
        self._edition = edition
        self._text = text
        self._read = texts_read(edition, text)
        self._sets = unlike_sets(list(self._read.values()))

    def could(self):
        """The texts that it may have been, rising."""
        return list(self._read)

    def signs(self, at):
        """The signs that stand at this sign's place in the texts that it may have been, rising."""
        if not is_whole(at, 0, len(self._text) - 1):
            raise NoNumber(at)
        return sorted({text[at] for text in self._read})

    def sets(self):
        """The sets as which these texts are read, each once, in the order of the first texts."""
        return list(self._sets)

    def many_sets(self):
        """How many these sets are."""
        return len(self._sets)

    def ways(self, places):
        """The texts that are read as just these places, rising."""
        if not is_places_of(self._edition, places):
            raise NoPlaces(places)
        return [text for text, found in self._read.items() if found == places]

    def sure(self):
        """The places of the parts that are in all of these sets."""
        if not self._sets:
            return Places(self._edition)
        sure = self._sets[0]
        for places in self._sets:
            sure = sure.met(places)
        return sure

    def perhaps(self):
        """The places of the parts that are in one of these sets at least."""
        return places_of_stretches(self._edition, [run for places in self._sets for run in places.runs()])

    def fits(self, thing):
        """Whether thing is one of the texts that it may have been."""
        # Only a text is looked up: a list or a dict can't be.
        return isinstance(thing, str) and thing in self._read

    def mended(self, at, sign):
        """The torn writing with a sign in the place of a torn one."""
        if not (is_whole(at, 0, len(self._text) - 1) and self._text[at] == TEAR):
            raise NoNumber(at)
        if not is_made_of(sign, SIGNS, 1):
            raise NoMark(sign)
        return Torn(self._edition, with_sign(self._text, at, sign))

    def __len__(self):
        return len(self._read)

    def __str__(self):
        return str(self._text)


def is_torn(thing):
    """Whether thing is a text that may be a torn writing."""
    return isinstance(thing, str) and len(thing) <= MOST_SIGNS and thing.count(TEAR) <= MOST_TEARS


def texts_read(edition, text):
    """The texts that a torn one may have been, rising, each with the places as which it is read."""
    found = {whole: places_read(edition, whole) for whole in whole_texts(text)}
    return {whole: places for whole, places in found.items() if places is not None}


def whole_texts(text):
    """All texts that a torn one becomes, rising."""
    at = text.find(TEAR)
    if at < 0:
        return [text]
    # The signs ahead of the first tear are alike in all of them, so by rising signs there these texts rise.
    return [whole for sign in SIGNS for whole in whole_texts(with_sign(text, at, sign))]


def with_sign(text, at, sign):
    """The text with this sign in the place of one of its own."""
    return text[:at] + sign + text[at + 1:]


def unlike_sets(some):
    """The unlike ones of some places, each once, in the order in which they first stand."""
    sets = {}
    for places in some:
        sets.setdefault(tuple(places.runs()), places)
    return list(sets.values())
