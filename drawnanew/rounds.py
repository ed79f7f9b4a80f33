"""Rounds in any order: a house that is drawn instance by instance, without events."""

from drawnanew.casts import Cast
from drawnanew.errors import NoInstance, NoName, NotDue
from drawnanew.pages import shown_form


def _due(cast):
    """The paths of the instances on the page that must be drawn, in page order."""
    return [path for path in cast.paths() if cast.is_due(cast.living[path])]


def _draw(cast, path):
    """Draw the instance at this path, and the children that it makes with everything beneath them."""
    waiting = [path]
    while waiting:
        instance = cast.living[waiting.pop()]
        _, made = cast.draw(instance, cast.given(instance))
        waiting.extend(made)
    _clear(cast)


def _clear(cast):
    """Drop what is aside if no instance on the page must be drawn."""
    if not _due(cast):
        kept = {path: True for path in cast.paths()}
        for path in list(cast.living):
            if path not in kept:
                del cast.living[path]


class Rounds:
    """The kept machine of a house without events, whose instances are drawn in any order."""

    def __init__(self, house):
        self._house = house
        self._cast = Cast(house)
        self._cast.make(house.root, ())
        _draw(self._cast, ())
        self._shown = shown_form(self._cast.node())

    @property
    def shown(self):
        """The shown form of the page."""
        return self._shown

    def instances(self):
        """The pairs of the place and the name of the component of each instance, in page order."""
        return [(place, self._cast.living[path].component.name) for path, place in self._cast.places().items()]

    def _path_at(self, place):
        """The path of the instance at this place."""
        path = self._cast.path_at(place)
        if path is None:
            raise NoInstance(place)
        return path

    def set_cell(self, place, cell, value):
        """Set a cell of the instance at the place, modulo its size."""
        instance = self._cast.living[self._path_at(place)]
        sizes = {name: size for name, size, _ in instance.component.cells}
        if not isinstance(cell, str) or cell not in sizes:
            raise NoName(cell)
        instance.state[cell] = value % sizes[cell]
        _clear(self._cast)

    def due(self):
        """The places of the instances that must be drawn, in page order."""
        return [self._cast.place_of(path) for path in _due(self._cast)]

    def draw(self, place):
        """Draw the instance at the place."""
        path = self._path_at(place)
        if not self._cast.is_due(self._cast.living[path]):
            raise NotDue(place)
        _draw(self._cast, path)
        self._shown = shown_form(self._cast.node())

    def settle(self):
        """Draw as a round does; the places of the instances that are drawn again, in order."""
        cast = self._cast
        again = []
        waiting = [()]
        while waiting:
            instance = cast.living[waiting.pop()]
            if cast.is_due(instance):
                if instance.drawn is not None:
                    again.append(cast.place_of(instance.path))
                cast.draw(instance, cast.given(instance))
            waiting.extend(list(instance.children)[::-1])
        _clear(cast)
        self._shown = shown_form(cast.node())
        return again

    def copy(self):
        """New rounds that stand as these do."""
        twin = Rounds(self._house)
        twin._cast = self._cast.copy()
        twin._shown = self._shown
        return twin


def _orders_on(order, cast, due):
    """The orders that go on with one of the instances that must be drawn, the last one first, with their casts."""
    rows = []
    for path in due:
        twin = cast.copy()
        _draw(twin, path)
        rows.append((order + (cast.place_of(path),), twin))
    return rows[::-1]


def drawing_orders(rounds):
    """All orders, as tuples of places, in which instances that must be drawn can be drawn until none must be."""
    waiting = [((), rounds._cast.copy())]
    while waiting:
        order, cast = waiting.pop()
        due = _due(cast)
        if not due:
            yield order
        waiting.extend(_orders_on(order, cast, due))
