"""Rows of items, and the keys by which their items are known again."""

from drawnanew.errors import BadRow, NoName
from drawnanew.forms import check_form, is_value, names_in, value_of

MOST_ITEMS = 5


def is_row(thing):
    """Whether the thing is a tuple of at most 5 different values."""
    if not isinstance(thing, tuple) or len(thing) > MOST_ITEMS:
        return False
    return all([is_value(item) for item in thing]) and len(set(thing)) == len(thing)


def check_rows(rows):
    """Raise BadRow with the first one that is not a row of items."""
    for row in rows:
        if not is_row(row):
            raise BadRow(row)


def _key_value(parts, item, at):
    """The value of a key, given as a tuple."""
    return value_of(parts, {"item": item, "at": at})


class Key:
    """A form that reads no names but item and at; it never changes."""

    def __init__(self, form):
        check_form(form)
        for name in names_in(form):
            if name not in ("item", "at"):
                raise NoName(name)
        self._parts = form

    @property
    def parts(self):
        """The form as a tuple."""
        return self._parts

    def __call__(self, item, at):
        """The value for an item at a place."""
        return _key_value(self._parts, item, at)

    def __le__(self, other):
        if not isinstance(other, Key):
            return NotImplemented
        values = [
            (_key_value(self._parts, item, at), _key_value(other._parts, item, at))
            for item in range(10)
            for at in range(MOST_ITEMS)
        ]
        told = {second: first for first, second in values}
        return all([told[second] == first for first, second in values])

    def idents(self, row):
        """The tuple of the idents of the row's items."""
        check_rows([row])
        return _idents(self, row)


def _idents(key, row):
    """The idents of the items of a row that is not checked."""
    values = [key(item, at) for at, item in enumerate(row)]
    return tuple([(value, values[:at].count(value)) for at, value in enumerate(values)])


def _matches(before, behind):
    """The pairs of places with the same ident, by the new place."""
    places = {ident: place for place, ident in enumerate(before)}
    return [(places[ident], place) for place, ident in enumerate(behind) if ident in places]


def _slipped(matches, old, new):
    """The slips among the matches."""
    return [(old[place], new[at]) for place, at in matches if old[place] != new[at]]


def _lost(matches, old, new):
    """The items that are lost under the matches, in the order of the new row."""
    return [item for at, item in enumerate(new) if item in old and (old.index(item), at) not in matches]


def matched(key, old, new):
    """The tuple of the pairs of places that are matched, by the new place."""
    check_rows([old, new])
    return tuple(_matches(_idents(key, old), _idents(key, new)))


def slips(key, old, new):
    """The tuple of the pairs of different items that are matched, by the new place."""
    return tuple(_slipped(matched(key, old, new), old, new))


def losses(key, old, new):
    """The tuple of the lost items, in the order of the new row."""
    return tuple(_lost(matched(key, old, new), old, new))


def _first_parted(pairs, idents):
    """The first pair of rows, whose idents are told by row, that has a slip or a lost item, or None."""
    for old, new in pairs:
        matches = _matches(idents[old], idents[new])
        if _slipped(matches, old, new) or _lost(matches, old, new):
            return (old, new)
    return None


def faithful(key, menu):
    """None if the key is faithful for the menu, otherwise the first pair of rows with a slip or a lost item."""
    check_rows(menu)
    pairs = [(old, new) for old in menu for new in menu]
    return _first_parted(pairs, {row: _idents(key, row) for row in menu})


def _rows_of(size, places):
    """All rows of at most so many items below the size, the shorter ones first."""
    rows = [()]
    longest = [()]
    for _ in range(places):
        longest = [row + (item,) for row in longest for item in range(size) if item not in row]
        rows.extend(longest)
    return rows


def least_pair(key, size, places):
    """The first pair of rows with a slip or a lost item that has the fewest items together, or None."""
    rows = _rows_of(size, places)
    idents = {row: _idents(key, row) for row in rows}
    for many in range(2 * places + 1):
        pairs = [(old, new) for old in rows for new in rows if len(old) + len(new) == many]
        found = _first_parted(pairs, idents)
        if found is not None:
            return found
    return None


def _is_beneath(first, second):
    """Whether the first key is at most the second one, but not the other way."""
    return first <= second and not second <= first


def coarsest(keys, menu):
    """The ascending list of the places of the faithful keys that have no other faithful one beneath them."""
    check_rows(menu)
    places = [place for place, key in enumerate(keys) if faithful(key, menu) is None]
    return [place for place in places if not any([_is_beneath(keys[other], keys[place]) for other in places])]
