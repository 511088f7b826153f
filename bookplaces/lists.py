"""Lists of places by names, with deeds that go back and forth."""

from bookplaces.editions import check_edition
from bookplaces.errors import Doubled, NoList, NoName, NoPlaces, TooMany, Unready
from bookplaces.leading import check_leading_from
from bookplaces.places import is_places_of
from bookplaces.words import is_name

MOST_LISTS = 20
MOST_KEPT = 60


class Lists:
    """Places of one edition by names, in the order in which the names came."""

    def __init__(self, edition):
        check_edition(edition)
        self._edition = edition
        # A dict of places by names is never changed, but another one takes its
        # place at each deed: the elder ones and the later ones are such dicts, too.
        self._lists = {}
        self._elder = []
        self._later = []

    def put(self, name, places):
        """Let the list of this name, perhaps a new one, have these places."""
        check_name(name)
        if not is_places_of(self._edition, places):
            raise NoPlaces(places)
        if name not in self._lists and len(self._lists) == MOST_LISTS:
            raise TooMany(MOST_LISTS + 1)
        self._become(self._with(name, places))

    def add(self, name, places):
        """Let a list have these places too; the list's own places refuse what is no places."""
        self._check_list(name)
        self._become(self._with(name, self._lists[name].joined(places)))

    def strike(self, name, places):
        """Let a list no longer have these places; refused likewise."""
        self._check_list(name)
        self._become(self._with(name, self._lists[name].without(places)))

    def drop(self, name):
        """Let a list be no more."""
        self._check_list(name)
        self._become({held: places for held, places in self._lists.items() if held != name})

    def rename(self, name, other):
        """Let a list have another name, in its place."""
        self._check_lists(name, other)
        if other in self._lists:
            raise Doubled(other)
        self._become({other if held == name else held: places for held, places in self._lists.items()})

    def swap(self, name, other):
        """Exchange what two lists have."""
        self._check_lists(name, other)
        self._check_list(other)
        lists = self._with(name, self._lists[other])
        lists[other] = self._lists[name]
        self._become(lists)

    def back(self):
        """Undo the last deed that is done."""
        if not self._elder:
            raise Unready()
        self._later.append(self._lists)
        self._lists = self._elder.pop()

    def forth(self):
        """Do the deed again that was undone last."""
        if not self._later:
            raise Unready()
        self._elder.append(self._lists)
        self._lists = self._later.pop()

    def names(self):
        """The names of all lists, in order."""
        return list(self._lists)

    def places_of(self, name):
        """The places of a list."""
        self._check_list(name)
        return self._lists[name]

    def holders(self, thing):
        """The names of the lists that have the part of this number, in order."""
        return [name for name, places in self._lists.items() if places.has(thing)]

    def told(self):
        """All lists, in order, as tuples (name, runs)."""
        return tuple([(name, tuple(places.runs())) for name, places in self._lists.items()])

    def edition(self):
        """The edition of which the lists are."""
        return self._edition

    def twin(self):
        """Other lists, the same now and with the same deeds to go back and forth."""
        lists = Lists(self._edition)
        lists._lists = self._lists
        lists._elder = list(self._elder)
        lists._later = list(self._later)
        return lists

    def over(self, leading):
        """The lists that a leading makes of these, with no deeds to go back or forth."""
        check_leading_from(self._edition, leading)
        _, other = leading.editions()
        lists = Lists(other)
        lists._lists = {name: leading.over(places) for name, places in self._lists.items()}
        return lists

    def asker(self, name):
        """A function that tells whether the list of this name has the part of a number."""
        self._check_list(name)

        def ask(thing):
            return self.places_of(name).has(thing)

        return ask

    def __len__(self):
        return len(self._lists)

    def _with(self, name, places):
        """A new dict of the lists, in which this one has these places."""
        lists = dict(self._lists)
        lists[name] = places
        return lists

    def _become(self, lists):
        """Do a deed: the lists are these from now on."""
        self._elder.append(self._lists)
        if len(self._elder) > MOST_KEPT:
            self._elder.pop(0)
        self._later = []
        self._lists = lists

    def _check_list(self, name):
        """Refuse what is no name, or a name by which there is no list."""
        check_name(name)
        if name not in self._lists:
            raise NoList(name)

    def _check_lists(self, name, other):
        """Refuse the first of both that is no name, and then the first one if there is no list of it."""
        check_name(name)
        check_name(other)
        self._check_list(name)


def check_name(thing):
    """Refuse what is no name."""
    if not is_name(thing):
        raise NoName(thing)
