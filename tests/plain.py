"""Writings read plainly, by patterns, and gone over one by one: what the program's answers are held against."""

import re

from tests.checks import spots_of_four

NUMBER = "[1-9][0-9]{0,2}"
PIECE = re.compile(f"(?P<book>[a-z]{{1,6}})|((?P<name>[a-z]{{1,6}}) )?(?P<n>{NUMBER})(:(?P<m>{NUMBER}))?(?P<letter>[a-d])?")


class Refused(Exception):
    """Why a piece can't be read."""


class Plain:
    """An edition of books, by a table of its spots and of the numbers of their parts."""

    def __init__(self, books):
        self.spots = {}
        for number, place in enumerate(spots_of_four(books)):
            for many in (1, 2, 3, 4):
                self.spots.setdefault(place[:many], []).append(number)

    def stretch(self, spot):
        return self.spots[spot][0], self.spots[spot][-1]

    def piece(self, text, mark, said):
        """The spot that a piece tells, by the rows of 42, or Refused with its word."""
        match = PIECE.fullmatch(text)
        if match is None:
            raise Refused("form")
        if match["book"] is None and match["name"] is None and said is None:
            raise Refused("said")
        name = match["book"] or match["name"] or said[0]
        if (name,) not in self.spots:
            raise Refused("book")
        if match["book"]:
            return (name,)
        many_chapters = (name, 2) in self.spots
        number = int(match["n"])
        if match["m"]:
            spot = (name, number, int(match["m"]))
        elif match["name"]:
            spot = (name, number) if many_chapters else (name, 1, number)
        elif mark in ",-" and len(said) >= 3:
            spot = (name, said[1], number)
        else:
            spot = (name, number) if many_chapters else (name, 1, number)
        return self.lettered(spot, match["letter"])

    def lettered(self, spot, letter):
        for many, word in ((2, "chapter"), (3, "verse")):
            if spot[:many] not in self.spots:
                raise Refused(word)
        if letter is None:
            return spot
        part = (*spot, " abcd".index(letter))
        if len(spot) == 2 or part not in self.spots:
            raise Refused("part")
        return part

    def read(self, text, said=None, mark=","):
        """(stretches, spots with their signs, what was said last), or (at, why)."""
        stretches, spots = [], []
        at, again = 0, False
        for cut in re.split("([,;-])", text) if text else []:
            if cut in (",", ";", "-"):
                if cut == "-" and again:
                    return at, "again"
                mark, at, again = cut, at + 1, cut == "-"
                continue
            try:
                said = self.piece(cut, mark, said)
                self.put(stretches, mark if spots else ",", said)
            except Refused as refused:
                return at, str(refused)
            spots.append((at, said))
            at += len(cut)
        return stretches, spots, said

    def put(self, stretches, mark, spot):
        first, last = self.stretch(spot)
        if mark == "-":
            if last <= stretches[-1][1]:
                raise Refused("order")
            stretches[-1] = (stretches[-1][0], last)
        else:
            stretches.append((first, last))

    def pieces(self):
        """Every piece that some spot may be told by, each once."""
        found = {}
        for spot in self.spots:
            name, numbers = spot[0], ":".join(str(number) for number in spot[1:3])
            verse = str(spot[2]) if len(spot) > 2 else ""
            letter = " abcd"[spot[3]] if len(spot) > 3 else ""
            for text in (name, f"{name} {numbers}{letter}", f"{name} {verse}{letter}", numbers + letter, verse + letter):
                if PIECE.fullmatch(text):
                    found[text] = True
        return sorted(found)

    def writings(self, wanted, said, mark, most):
        """All writings in order of at most so many signs that tell just these parts, as (signs, items, text)."""
        pieces = self.pieces()
        found = []

        def go(text, items, said, mark, left, opened):
            for piece in pieces:
                if len(text) + len(piece) > most:
                    continue
                try:
                    spot = self.piece(piece, mark, said)
                except Refused:
                    continue
                first, last = self.stretch(spot)
                if opened:
                    if last <= opened[1]:
                        continue
                    first = opened[0]
                if left[:last - first + 1] != list(range(first, last + 1)):
                    continue
                rest = left[last - first + 1:]
                longer = text + piece
                if not rest:
                    found.append((len(longer), items + 1, longer))
                elif not opened:
                    go(longer + "-", items, spot, "-", left, (first, last))
                for sign in ",;" if rest else "":
                    go(longer + sign, items + 1, spot, sign, rest, None)

        go("", 0, said, mark, sorted(wanted), None)
        return found
