"""Writings carried from one edition to another, and misread by it."""

from bookplaces.leading import check_leading
from bookplaces.reading import places_read, read
from bookplaces.writing import shortest


def carried(leading, text, said=None, mark=","):
    """The writings, by the other and by the one, of what a text tells that is led over and that is lacking."""
    check_leading(leading)
    one, _ = leading.editions()
    places = read(one, text, said, mark).places()
    return shortest(leading.over(places)), shortest(places.met(leading.lacking()))


def misread(leading, text):
    """Three Places of the other: read and meant, meant and not read, read and not meant; None where it can't read."""
    check_leading(leading)
    one, other = leading.editions()
    meant = leading.over(read(one, text).places())
    found = places_read(other, text)
    if found is None:
        return None
    return found.met(meant), meant.without(found), found.without(meant)
