"""Editions between which the tests of leadings lead."""

from bookplaces.editions import Edition
from tests.checks import sizes

# The one has the lines 0 to 9, the other some of them in another order and two more.
ONE = Edition((("a", ((2, 1), (1, 3))), ("b", ((3,),))))
OTHER = Edition((("c", ((1, 2, 2),)), ("d", ((4,), (1,)))), [(7, 3), (0, 2), (20, 2), (4, 3)])


def random_lines(chance, many, most):
    """So many unlike lines below most, in some order, often some that follow one another."""
    lines = []
    while len(lines) < many:
        first = chance.randrange(most)
        for line in range(first, min(most, first + chance.randint(1, 4))):
            if line not in lines and len(lines) < many:
                lines.append(line)
    return lines


def random_edition(chance, most):
    """An edition of one or two books, with lines below most, or as many as it needs and some more."""
    books = tuple([(name, tuple([tuple([chance.randint(1, 4) for _ in range(chance.randint(1, 3))])
                                 for _ in range(chance.randint(1, 2))])) for name in "pq"[:chance.randint(1, 2)]])
    many = sizes(books)
    return Edition(books, [(line, 1) for line in random_lines(chance, many, max(most, many + 4))])
