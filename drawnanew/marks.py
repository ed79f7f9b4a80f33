"""Marks: what lets the kept machine leave work out, and how it is mended."""

from drawnanew.errors import NoMark
from drawnanew.forms import names_in
from drawnanew.shapes import numbered, with_inner

ITEM_KEY = ("get", "item")
FULL_FENCE = "last"
FULL_ISLAND = ("takes", True)


def _marks_of(component):
    """The marks of a component, in order."""
    name = component.name
    marks = [("looks", name)]
    for number, shape in enumerate(numbered(component.shape)):
        if shape[0] == "each":
            marks.append(("key", name, number))
    marks.extend([("effect", name, word) for word, _, _ in component.effects])
    marks.extend([("fence", name, word) for word, _, _ in component.asks])
    if component.island is not None:
        marks.append(("island", name))
    return marks


def all_marks(house):
    """The list of all marks of the house."""
    return [mark for component in house for mark in _marks_of(component)]


def _named(rows, word):
    """The row of an effect or of an ask with this word."""
    return [row for row in rows if row[0] == word][0]


def _has_all(told, names):
    """Whether all of these names are told."""
    return all([name in told for name in names])


def _is_full(component, mark):
    """Whether this mark of the component is full."""
    kind = mark[0]
    if kind == "looks":
        return _has_all(component.looks, component.given_names)
    if kind == "key":
        return numbered(component.shape)[mark[2]][3] == ITEM_KEY
    if kind == "effect":
        _, form, names = _named(component.effects, mark[2])
        return _has_all(names, names_in(form))
    if kind == "fence":
        return _named(component.asks, mark[2])[2] == FULL_FENCE
    return component.island == FULL_ISLAND


def weak_marks(house):
    """The list of the marks of the house that are not full."""
    return [mark for mark in all_marks(house) if not _is_full(house[mark[1]], mark)]


def _with_item_key(plan, number):
    """The shape of the plan, in which the each with this number has the item as its key."""
    at, shape, plans, _ = plan
    if at == number:
        return shape[:3] + (ITEM_KEY,) + shape[4:]
    return with_inner(shape, tuple([_with_item_key(inner, number) for inner in plans]))


def _with_mended(component, mark):
    """The component with this mark mended."""
    kind = mark[0]
    if kind == "looks":
        return component.changed(looks=None)
    if kind == "key":
        return component.changed(shape=_with_item_key(component.plan, mark[2]))
    if kind == "effect":
        return component.changed(effects=tuple([
            (word, form, names_in(form) if word == mark[2] else names) for word, form, names in component.effects
        ]))
    if kind == "fence":
        return component.changed(asks=tuple([
            (word, form, FULL_FENCE if word == mark[2] else fence) for word, form, fence in component.asks
        ]))
    return component.changed(island=FULL_ISLAND)


def _is_one_of(mark, marks):
    """Whether the mark is one of these; True and False are no numbers of shapes."""
    return mark in marks and not any([isinstance(part, bool) for part in mark])


def mended(house, *marks):
    """The house with these marks mended."""
    told = all_marks(house)
    for mark in marks:
        if not _is_one_of(mark, told):
            raise NoMark(mark)
    better = house.changed()
    for mark in marks:
        better = better.replaced(_with_mended(better[mark[1]], mark))
    return better
