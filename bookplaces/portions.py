"""Portions: places parted by verses, so that the greatest portion is as small as may be."""

from bookplaces.errors import NoNumber
from bookplaces.places import check_places, is_places_of, places_of_numbers
from bookplaces.words import is_whole

MOST_PORTIONS = 60


def greatest(places, many):
    """How many parts the greatest of so many portions has."""
    check_asked(places, many)
    return least_room(shares_of(places), many)


def portions(places, many):
    """So many portions, each with as many verses as go, from the first one on."""
    check_asked(places, many)
    shares = shares_of(places)
    rows = filled(shares, least_room(shares, many))
    empty = [[] for _ in range(many - len(rows))]
    return [places_of_numbers(places.edition(), row) for row in rows + empty]


def is_parting(places, thing):
    """Whether thing is a list or tuple of portions in order that part the places, and no verse."""
    check_places(places)
    edition = places.edition()
    if not (isinstance(thing, (list, tuple)) and all([is_places_of(edition, portion) for portion in thing])):
        return False
    # In order, with no part twice and none too few: so these are the numbers as the places tell them.
    numbers = [number for portion in thing for number in portion.numbers()]
    spots = [spot for portion in thing for spot in portion.spots()]
    return numbers == places.numbers() and spots == places.spots()


def portion_of(places, many, number):
    """In which of so many portions a part of the places is, from 0; None where it is no part of them."""
    for at, portion in enumerate(portions(places, many)):
        if portion.has(number):
            return at
    return None


def check_asked(places, many):
    """Refuse what is no places, and then what is no number of portions."""
    check_places(places)
    if not is_whole(many, 1, MOST_PORTIONS):
        raise NoNumber(many)


def shares_of(places):
    """What the places have of each verse, in order: the numbers of its parts that are in them."""
    edition = places.edition()
    shares = {}
    for number in places.numbers():
        shares.setdefault(edition.verse_of(number), []).append(number)
    return list(shares.values())


def least_room(shares, many):
    """The fewest parts that a portion must have room for, so that all shares go into so many portions."""
    sizes = [len(share) for share in shares]
    # With less room a share would not go in, or not all parts would: no need to try.
    room = max(max(sizes, default=0), -(-sum(sizes) // many))
    while len(filled(shares, room)) > many:
        room += 1
    return room


def filled(shares, room):
    """The shares put together in order, as many as go into each row of numbers that has room for so many."""
    rows = []
    for share in shares:
        if rows and len(rows[-1]) + len(share) <= room:
            rows[-1].extend(share)
        else:
            rows.append(list(share))
    return rows
