"""What several tests use: refusals looked at whole, and some editions."""

from bookplaces.editions import Edition
from bookplaces.errors import NoWriting

# Things of all kinds that may be handed in where no number is asked for.
NO_NUMBERS = (True, False, None, "", "1", "a", (), (1,), [], [1], {}, {1: 1}, Edition([("a", [[1]])]))

SMALL = (("a", ((1,),)),)
MIXED = (
    ("gen", ((2, 1, 4), (1, 3))),
    ("ex", ((1,),)),
    ("lev", ((3, 2), (1, 1), (4,))),
    ("num", ((2, 1, 1),)),
)
# Forty chapters of ten verses of one part: the most chapters and the most parts.
FULL = tuple([(name, ((1,) * 10,) * 10) for name in ("a", "b", "c", "d")])
# Both the longest chapter and the longest book.
LONG = (("x", ((4,) * 30,)), ("y", ((1,) * 2,) * 12))
SIX = tuple([(name * 6, ((index % 4 + 1,),)) for index, name in enumerate("zyxwvu")])

ALL_BOOKS = (SMALL, MIXED, FULL, LONG, SIX)


def sizes(books):
    """How many parts books have, counted plainly."""
    return sum([parts for _, chapters in books for verses in chapters for parts in verses])


def spots_of_four(books):
    """All spots of four of books, in order, counted plainly."""
    return [
        (name, chapter + 1, verse + 1, part + 1)
        for name, chapters in books
        for chapter in range(len(chapters))
        for verse in range(len(chapters[chapter]))
        for part in range(chapters[chapter][verse])
    ]


def refused(case, kind, fields, deed, *things):
    """Checks that the deed refuses the things with just this class and these very fields."""
    with case.assertRaises(kind) as caught:
        deed(*things)
    error = caught.exception
    case.assertIs(type(error), kind)
    case.assertEqual(sorted(vars(error)), sorted(fields))
    for name, held in fields.items():
        case.assertIs(vars(error)[name], held)


def refused_equal(case, kind, found, deed, *things):
    """The same for what is counted anew: an equal number, which is no True or False."""
    with case.assertRaises(kind) as caught:
        deed(*things)
    case.assertIs(type(caught.exception), kind)
    case.assertIs(type(caught.exception.found), int)
    case.assertEqual(vars(caught.exception), {"found": found})


def unread(case, at, why, deed, *things):
    """Checks that the deed refuses a writing at just this sign with just this word."""
    with case.assertRaises(NoWriting) as caught:
        deed(*things)
    case.assertIs(type(caught.exception), NoWriting)
    case.assertIs(type(caught.exception.at), int)
    case.assertEqual(vars(caught.exception), {"at": at, "why": why})


def outcome(deed, *things):
    """What a deed tells, or the class of the refusal and its fields."""
    try:
        return deed(*things)
    except (ValueError, LookupError) as error:
        return type(error), vars(error)


def sets_of(size):
    """All sets of the numbers below size, each as a rising list."""
    return [[number for number in range(size) if bits >> number & 1] for bits in range(1 << size)]
