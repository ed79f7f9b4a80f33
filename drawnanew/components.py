"""Components: programs that draw a part of a page."""

from drawnanew.errors import BadComponent, BadForm, NoName
from drawnanew.forms import check_form, is_name, is_whole, names_in
from drawnanew.rows import is_row
from drawnanew.shapes import levels, numbered, plan_of

FENCES = ("any", "own", "same", "both", "last")
PRESSES = ("lost", "kept", "takes")

# The names of the item and of its place in a row; nothing else has them.
ROW_NAMES = ("item", "at")

MOST_SIZE = 4
MOST_ROWS = 4
MOST_SHAPES = 16
MOST_LEVELS = 5

# How many items a shape with this first item has.
MANY_ITEMS = {"text": 2, "button": 2, "row": 2, "col": 2, "when": 4, "put": 3, "each": 6}


def _is_size(thing):
    """Whether the thing is a size."""
    return is_whole(thing) and 1 <= thing <= MOST_SIZE


def is_below(thing, size):
    """Whether the thing is an integer from 0 on and below the size."""
    return is_whole(thing) and 0 <= thing < size


def are_rows(thing, least, most, width):
    """Whether the thing is a tuple of so many tuples, each with this number of items."""
    if not isinstance(thing, tuple) or not least <= len(thing) <= most:
        return False
    return all([isinstance(row, tuple) and len(row) == width for row in thing])


def are_different(words):
    """Whether these are different names, or words, which have the same form."""
    return all([is_name(word) for word in words]) and len(set(words)) == len(words)


def _are_new(names, earlier):
    """Whether these are different names that came not before and are free."""
    return are_different(names) and not any([name in earlier or name in ROW_NAMES for name in names])


def _are_among(told, names):
    """Whether the thing told is a tuple of different ones of these names."""
    return isinstance(told, tuple) and are_different(told) and all([name in names for name in told])


def _firsts(*parts):
    """The first items of the rows of these parts."""
    return [row[0] for part in parts for row in part]


def _reads(form, names):
    """Whether the thing is a form that reads none but these names."""
    try:
        check_form(form)
    except BadForm:
        return False
    return all([name in names for name in names_in(form)])


def _are_forms(thing, names):
    """Whether the thing is a tuple of forms that read none but these names."""
    return isinstance(thing, tuple) and all([_reads(form, names) for form in thing])


def _is_menu(thing):
    """Whether the thing is a tuple of 1 to 4 rows of items."""
    return isinstance(thing, tuple) and 1 <= len(thing) <= MOST_ROWS and all([is_row(row) for row in thing])


def _is_shape(shape, names):
    """Whether the thing is a shape whose forms read the names; its size has no say."""
    if not isinstance(shape, tuple) or not shape or not isinstance(shape[0], str):
        return False
    word = shape[0]
    if word not in MANY_ITEMS or len(shape) != MANY_ITEMS[word]:
        return False
    if word == "text":
        return _reads(shape[1], names)
    if word == "button":
        return is_name(shape[1])
    if word == "when":
        return _reads(shape[1], names) and _is_shape(shape[2], names) and _is_shape(shape[3], names)
    if word == "put":
        return is_name(shape[1]) and _are_forms(shape[2], names)
    if word == "each":
        return _is_each(shape, names)
    return isinstance(shape[1], tuple) and all([_is_shape(part, names) for part in shape[1]])


def _is_each(shape, names):
    """Whether the parts of an each are as described."""
    _, form, menu, key, component, forms = shape
    if not _reads(form, names) or not _is_menu(menu) or not _reads(key, ROW_NAMES):
        return False
    return is_name(component) and _are_forms(forms, names + list(ROW_NAMES))


def _right_name(component):
    return is_name(component.name)


def _right_takes(component):
    if not are_rows(component.takes, 0, 3, 2):
        return False
    return _are_new(_firsts(component.takes), []) and all([_is_size(size) for _, size in component.takes])


def _are_sized(rows, most, earlier):
    """Whether these are triples of a new name, its size and a value below that."""
    if not are_rows(rows, 0, most, 3) or not _are_new(_firsts(rows), earlier):
        return False
    return all([_is_size(size) and is_below(worth, size) for _, size, worth in rows])


def _right_hears(component):
    return _are_sized(component.hears, 2, _firsts(component.takes))


def _right_cells(component):
    return _are_sized(component.cells, 12, _firsts(component.takes, component.hears))


def _right_asks(component):
    read = _firsts(component.takes, component.hears, component.cells)
    if not are_rows(component.asks, 0, 2, 3) or not _are_new(_firsts(component.asks), read):
        return False
    return all([_reads(form, read) and fence in FENCES for _, form, fence in component.asks])


def _all_names(component):
    """All names of a component whose takes, hears, cells and asks are as described."""
    return _firsts(component.takes, component.hears, component.cells, component.asks)


def _right_gives(component):
    if not are_rows(component.gives, 0, 2, 3) or not _are_new(_firsts(component.gives), []):
        return False
    names = _all_names(component)
    return all([_is_size(size) and _reads(form, names) for _, size, form in component.gives])


def _right_effects(component):
    if not are_rows(component.effects, 0, 2, 3) or not are_different(_firsts(component.effects)):
        return False
    names = _all_names(component)
    return all([_reads(form, names) and _are_among(told, names) for _, form, told in component.effects])


def _are_sets(sets, component):
    """Whether these are the pairs of a deed, each of a cell and a form."""
    if not are_rows(sets, 1, 5, 2) or not _are_among(tuple(_firsts(sets)), _firsts(component.cells)):
        return False
    return _are_forms(tuple([form for _, form in sets]), _all_names(component) + ["item"])


def _right_deeds(component):
    if not are_rows(component.deeds, 0, 14, 3) or not are_different(_firsts(component.deeds)):
        return False
    return all([_are_sets(sets, component) and isinstance(on, bool) for _, sets, on in component.deeds])


def _right_looks(component):
    return component.looks is None or _are_among(component.looks, component.given_names)


def _right_island(component):
    island = component.island
    if island is None:
        return True
    return isinstance(island, tuple) and len(island) == 2 and island[0] in PRESSES and isinstance(island[1], bool)


def _right_shape(component):
    shape = component.shape
    if not _is_shape(shape, _all_names(component)) or shape[0] not in ("row", "col"):
        return False
    return len(numbered(shape)) <= MOST_SHAPES and levels(shape) <= MOST_LEVELS


# What must hold for each part, in the order in which the parts are looked at.
CHECKS = (
    ("name", _right_name),
    ("takes", _right_takes),
    ("hears", _right_hears),
    ("cells", _right_cells),
    ("asks", _right_asks),
    ("gives", _right_gives),
    ("effects", _right_effects),
    ("deeds", _right_deeds),
    ("looks", _right_looks),
    ("island", _right_island),
    ("shape", _right_shape),
)


class Component:
    """A component, checked when it is made; it never changes."""

    def __init__(self, name, shape, *, takes=(), hears=(), cells=(), asks=(), gives=(), effects=(), deeds=(),
                 looks=None, island=None):
        self.name = name
        self.takes = takes
        self.hears = hears
        self.cells = cells
        self.asks = asks
        self.gives = gives
        self.effects = effects
        self.deeds = deeds
        self.looks = looks
        self.island = island
        self.shape = shape
        for part, is_right in CHECKS:
            if not is_right(self):
                raise BadComponent(part)
        if looks is None:
            self.looks = self.given_names
        self.plan = plan_of(shape)
        self._sizes = {row[0]: row[1] for part in (takes, hears, cells) for row in part}
        self._sizes.update({word: MOST_SIZE for word, _, _ in asks})
        self._names = tuple(self._sizes)

    @property
    def names(self):
        """The names of takes, hears, cells and asks."""
        return self._names

    @property
    def given_names(self):
        """The names of takes, then of hears."""
        return tuple(_firsts(self.takes, self.hears))

    def size_of(self, name):
        """The size of a name; that of an ask is 4."""
        if not isinstance(name, str) or name not in self._sizes:
            raise NoName(name)
        return self._sizes[name]

    def changed(self, **parts):
        """A new component with these parts, and the others as they are."""
        told = {
            "name": self.name, "shape": self.shape, "takes": self.takes, "hears": self.hears, "cells": self.cells,
            "asks": self.asks, "gives": self.gives, "effects": self.effects, "deeds": self.deeds,
            "looks": self.looks, "island": self.island, **parts,
        }
        return Component(**told)
