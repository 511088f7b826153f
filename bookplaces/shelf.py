"""What a desk keeps: editions by names, each with its lists, and one of them in use."""

from bookplaces.errors import NoEdition, Unready
from bookplaces.leading import Leading
from bookplaces.lists import Lists


class Shelf:
    """Editions by names, in the order in which the names came."""

    def __init__(self):
        # The lists of each edition; they tell the edition, too.
        self._kept = {}
        self._used = None

    def names(self):
        """The names by which editions are kept."""
        return list(self._kept)

    def check_name(self, name):
        """Refuse a name by which no edition is kept."""
        if name not in self._kept:
            raise NoEdition(name)

    def check_use(self):
        """Refuse where no edition is in use."""
        if self._used is None:
            raise Unready()

    def use(self, name):
        """Let the edition of this name be in use."""
        self.check_name(name)
        self._used = name

    def keep(self, name, edition):
        """Keep an edition with no lists by a name, perhaps in the place of another one."""
        self._kept[name] = Lists(edition)

    def lists(self):
        """The lists of the edition in use."""
        return self._kept[self._used]

    def edition(self):
        """The edition in use."""
        return self.lists().edition()

    def leading_to(self, name):
        """The leading from the edition in use to the one of this name."""
        return Leading(self.edition(), self._kept[name].edition())

    def replace_lists(self, lists):
        """Let the edition in use, or the one of these lists in its place, have these lists."""
        self._kept[self._used] = lists

    def change_edition(self, edition):
        """Let the edition in use become this one, and lead its lists over."""
        self.replace_lists(self.lists().over(Leading(self.edition(), edition)))

    def lead_lists(self, name):
        """Let the edition of this name have the lists of the one in use, led over."""
        self._kept[name] = self.lists().over(self.leading_to(name))
