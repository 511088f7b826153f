"""Changes of editions told plainly: books as nested lists, down to the lines of each verse."""

from bookplaces.editions import Edition


def nested(edition):
    """(name, chapters) book by book, where a chapter is a list of verses and a verse the list of its lines."""
    books, pairs = edition.told()
    lines = iter([line for first, many in pairs for line in range(first, first + many)])
    return [(name, [[[next(lines) for _ in range(parts)] for parts in verses] for verses in chapters])
            for name, chapters in books]


def made(books):
    """The edition of such nested lists."""
    lines = [line for _, chapters in books for verses in chapters for verse in verses for line in verse]
    return Edition([(name, [[len(verse) for verse in verses] for verses in chapters]) for name, chapters in books],
                   [(line, 1) for line in lines])


def plainly(books, word, *things):
    """What becomes of nested lists by a deed that isn't refused."""
    if word == "rename":
        return [(things[0][name], chapters) for name, chapters in books]
    if word == "reorder":
        return sorted(books, key=lambda book: list(things[0]).index(book[0]))
    if word == "lessen":
        return without(books, things[0])
    (name, chapter, verse), *many = things[0], *things[1:]
    verses = dict(books)[name][chapter - 1]
    if word == "divide":
        lines = verses[verse - 1]
        verses[verse - 1:verse] = [lines[:many[0]], lines[many[0]:]]
    else:
        verses[verse - 1:verse + 1] = [verses[verse - 1] + verses[verse]]
    return books


def without(books, numbers):
    """Nested lists without the lines of the parts of these numbers, and without what has no lines left."""
    lines = [line for _, chapters in books for verses in chapters for verse in verses for line in verse]
    gone = {lines[number] for number in numbers}
    left = []
    for name, chapters in books:
        fewer = [[[line for line in verse if line not in gone] for verse in verses] for verses in chapters]
        fewer = [[verse for verse in verses if verse] for verses in fewer]
        if any(fewer):
            left.append((name, [verses for verses in fewer if verses]))
    return left


def random_deed(edition, chance):
    """A deed that is not refused; of few parts none is taken away."""
    names = edition.names()
    verses = list(dict.fromkeys(edition.verse_of(number) for number in range(edition.size())))
    parts = {spot: edition.parts(*spot) for spot in verses}
    word = chance.choice(("rename", "reorder", "divide", "merge", "lessen"))
    if word == "rename":
        return word, dict(zip(chance.sample(names, len(names)), chance.sample("pqrstuv", len(names))))
    if word == "reorder":
        return word, chance.choice((list, tuple))(chance.sample(names, len(names)))
    if word == "divide":
        spots = [spot for spot in verses if parts[spot] > 1 and edition.verses(*spot[:2]) < 30]
        if spots:
            spot = chance.choice(spots)
            return word, spot, chance.randint(1, parts[spot] - 1)
    if word == "merge":
        spots = [spot for spot in verses if parts[spot] + parts.get((*spot[:2], spot[2] + 1), 9) <= 4]
        if spots:
            return word, chance.choice(spots)
    if edition.size() < 4:
        return "lessen", []
    return "lessen", chance.choices(range(edition.size()), k=chance.randint(0, 3))
