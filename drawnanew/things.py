"""Numbers that are kept for the items of a row, by their idents or by themselves."""

from drawnanew.errors import NoItem
from drawnanew.forms import is_whole
from drawnanew.rows import check_rows


class Known:
    """A row that is shown, with a number for the ident of each item."""

    def __init__(self, key, row):
        self._key = key
        self._numbers = {}
        self.show(row)

    def __getitem__(self, item):
        if not is_whole(item) or item not in self._idents:
            raise NoItem(item)
        return self._numbers[self._idents[item]]

    def __setitem__(self, item, number):
        if not is_whole(item) or item not in self._idents:
            raise NoItem(item)
        self._numbers[self._idents[item]] = number

    def __iter__(self):
        return iter(self.row)

    def show(self, row):
        """Show a row; the idents that the row before has, too, keep their numbers."""
        idents = self._key.idents(row)
        self._numbers = {ident: self._numbers.get(ident, 0) for ident in idents}
        self._idents = {item: ident for item, ident in zip(row, idents)}
        self.row = row


class Things:
    """A row that is shown, with a number for each item."""

    def __init__(self, row):
        self._numbers = {}
        self.show(row)

    def __getitem__(self, item):
        if not is_whole(item) or item not in self._numbers:
            raise NoItem(item)
        return self._numbers[item]

    def __setitem__(self, item, number):
        if not is_whole(item) or item not in self._numbers:
            raise NoItem(item)
        self._numbers[item] = number

    def __iter__(self):
        return iter(self.row)

    def show(self, row):
        """Show a row; the items that the row before has, too, keep their numbers."""
        check_rows([row])
        self._numbers = {item: self._numbers.get(item, 0) for item in row}
        self.row = row


def _differ(key, old, item, new):
    """Whether both kinds of numbers differ behind the new row when the item of the old row has a 1."""
    known = Known(key, old)
    things = Things(old)
    known[item] = 1
    things[item] = 1
    known.show(new)
    things.show(new)
    return [known[told] for told in new] != [things[told] for told in new]


def least_parting(key, menu):
    """The first triple of an old row, an item in it and a new row for which the numbers differ, or None."""
    check_rows(menu)
    for old in menu:
        for new in menu:
            for item in old:
                if _differ(key, old, item, new):
                    return (old, item, new)
    return None
