"""Refusals: one class for each kind of them, in three families."""

# A refusal's words never show the thing that it holds: it may be made of any
# thing, and making it must not fail.


class PlaceError(ValueError):
    """A thing that can't be taken for what it should be."""

    def __init__(self, text):
        ValueError.__init__(self, text)


class LostError(LookupError):
    """A spot, or a thing in one, that isn't there."""

    def __init__(self, text):
        LookupError.__init__(self, text)


class NoNumber(PlaceError):
    """A thing that is no number of what is counted here."""

    def __init__(self, found):
        PlaceError.__init__(self, "no such number")
        self.found = found


class NoName(PlaceError):
    """A thing that is no name."""

    def __init__(self, found):
        PlaceError.__init__(self, "no name")
        self.found = found


class Doubled(PlaceError):
    """A name that is there already."""

    def __init__(self, found):
        PlaceError.__init__(self, "there already")
        self.found = found


class NoEdition(PlaceError):
    """A thing of which no edition is made, or that is none."""

    def __init__(self, found):
        PlaceError.__init__(self, "no edition")
        self.found = found


class TooMany(PlaceError):
    """A count that is greater than it may be."""

    def __init__(self, found):
        PlaceError.__init__(self, "too many")
        self.found = found


class NoLines(PlaceError):
    """A thing that tells no lines of an edition."""

    def __init__(self, found):
        PlaceError.__init__(self, "no lines of this edition")
        self.found = found


class NoPlaces(PlaceError):
    """A thing that tells no places, or none of this edition."""

    def __init__(self, found):
        PlaceError.__init__(self, "no places of this edition")
        self.found = found


class NoMark(PlaceError):
    """A thing that is no mark."""

    def __init__(self, found):
        PlaceError.__init__(self, "no mark")
        self.found = found


class NoDeed(PlaceError):
    """A thing that is no deed."""

    def __init__(self, found):
        PlaceError.__init__(self, "no deed")
        self.found = found


class NoSaid(PlaceError):
    """A thing that is no spot that may have been said."""

    def __init__(self, found):
        PlaceError.__init__(self, "no spot that was said")
        self.found = found


class NoNames(PlaceError):
    """A thing that tells no names, or no lists by names."""

    def __init__(self, found):
        PlaceError.__init__(self, "no names")
        self.found = found


class NoLeading(PlaceError):
    """A thing that is no leading, or none from this edition."""

    def __init__(self, found):
        PlaceError.__init__(self, "no leading from here")
        self.found = found


class NoTorn(PlaceError):
    """A thing that can be no torn writing."""

    def __init__(self, found):
        PlaceError.__init__(self, "no torn writing")
        self.found = found


class NoLine(PlaceError):
    """A thing that is no line for a desk."""

    def __init__(self, found):
        PlaceError.__init__(self, "no line for a desk")
        self.found = found


class NoText(PlaceError):
    """A line of a text, by its number, that can't stand there."""

    def __init__(self, line):
        PlaceError.__init__(self, "no such text")
        self.line = line


class NoWriting(PlaceError):
    """A writing that can't be read: the number of a sign, and a word for why."""

    def __init__(self, at, why):
        PlaceError.__init__(self, "no such writing")
        self.at = at
        self.why = why


class Unready(PlaceError):
    """What is asked for can't be done now."""

    def __init__(self):
        PlaceError.__init__(self, "not ready")


class NoSpot(LostError):
    """A thing that is no spot."""

    def __init__(self, found):
        LostError.__init__(self, "no spot")
        self.found = found


class NoBook(LostError):
    """A thing that is the name of no book here."""

    def __init__(self, found):
        LostError.__init__(self, "no such book")
        self.found = found


class NoChapter(LostError):
    """A thing that is the number of no chapter here."""

    def __init__(self, found):
        LostError.__init__(self, "no such chapter")
        self.found = found


class NoVerse(LostError):
    """A thing that is the number of no verse here."""

    def __init__(self, found):
        LostError.__init__(self, "no such verse")
        self.found = found


class NoPart(LostError):
    """A thing that is the number of no part here."""

    def __init__(self, found):
        LostError.__init__(self, "no such part")
        self.found = found


class NoList(KeyError):
    """A name by which no list is kept."""

    def __init__(self, found):
        KeyError.__init__(self, "no such list")
        self.found = found
