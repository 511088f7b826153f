"""Numbers, names and letters: what they are, and what writes them."""

from bookplaces.errors import NoNumber

FIGURES = "0123456789"
SMALL_LETTERS = "abcdefghijklmnopqrstuvwxyz"
PART_LETTERS = "abcd"

LONGEST_NAME = 6
LONGEST_NUMBER = 30


def is_number(thing):
    """Whether thing is a whole number."""
    # Python takes True and False for ints; here they are no numbers.
    return isinstance(thing, int) and not isinstance(thing, bool)


def is_whole(thing, low, high):
    """Whether thing is a whole number from low to high, both of them with."""
    return is_number(thing) and low <= thing <= high


def is_name(thing):
    """Whether thing is a text of one to six small letters."""
    return is_made_of(thing, SMALL_LETTERS, LONGEST_NAME)


def number_in(thing, low, high):
    """The number from low to high that thing plainly writes, or None."""
    if not is_made_of(thing, FIGURES, LONGEST_NUMBER):
        return None
    if thing[0] == "0" and thing != "0":
        return None
    number = int(thing)
    return number if is_whole(number, low, high) else None


def letter_of(part):
    """The letter of a verse's part, by the part's number."""
    if not is_whole(part, 1, len(PART_LETTERS)):
        raise NoNumber(part)
    return PART_LETTERS[part - 1]


def part_in(thing):
    """The number of the part that has this letter, or None."""
    if not is_made_of(thing, PART_LETTERS, 1):
        return None
    return PART_LETTERS.index(thing) + 1


def is_made_of(thing, signs, most):
    """Whether thing is a text of one to most signs, each of them one of these signs."""
    # The length first: nothing need be looked through that is too long anyway.
    return isinstance(thing, str) and 1 <= len(thing) <= most and all([sign in signs for sign in thing])


def is_tuple(thing, fewest, most):
    """Whether thing is a tuple of so many things."""
    return isinstance(thing, tuple) and fewest <= len(thing) <= most


def is_row(thing, fewest, most):
    """Whether thing is a list or tuple of so many things."""
    return isinstance(thing, (list, tuple)) and fewest <= len(thing) <= most
