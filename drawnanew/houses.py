"""Houses: components that draw one page together, and what they are drawn with."""

from drawnanew.components import Component, are_different, are_rows, is_below
from drawnanew.errors import BadHouse, Ring, TooMany, Unknown
from drawnanew.focusing import RULES
from drawnanew.forms import is_whole
from drawnanew.shapes import handing

MOST_COMPONENTS = 6
MOST_INSTANCES = 24


def _right_components(house):
    rows = house.components
    if not isinstance(rows, list) or not 1 <= len(rows) <= MOST_COMPONENTS:
        return False
    if not all([isinstance(component, Component) for component in rows]):
        return False
    return are_different([component.name for component in rows])


def _named(house, name):
    """The component with this name, or None."""
    for component in house.components:
        if component.name == name:
            return component
    return None


def _right_root(house):
    component = _named(house, house.root)
    return component is not None and component.takes == () and component.island is None


def _is_count(thing):
    """Whether the thing is an integer from 1 to 3."""
    return is_whole(thing) and 1 <= thing <= 3


def _right_far(house):
    if not are_rows(house.far, 1, 3, 4):
        return False
    return all([_is_count(answer) for edition in house.far for answer in edition])


def _right_room(house):
    return _is_count(house.room)


def _right_focus(house):
    return house.focus in RULES


def _right_elder(house):
    sizes = {cell: size for cell, size, _ in _named(house, house.root).cells}
    if not are_rows(house.elder, 0, len(sizes), 2) or not are_different([cell for cell, _ in house.elder]):
        return False
    return all([cell in sizes and is_below(worth, sizes[cell]) for cell, worth in house.elder])


# What must hold for each part, in the order in which the parts are looked at.
CHECKS = (
    ("components", _right_components),
    ("root", _right_root),
    ("far", _right_far),
    ("room", _right_room),
    ("focus", _right_focus),
    ("elder", _right_elder),
)


def _check_handing(components):
    """Raise Unknown or BadHouse unless all instances are those of a component and get as many values as it takes."""
    takes = {component.name: len(component.takes) for component in components}
    rows = [row for component in components for row in handing(component.shape)]
    for name, _, _ in rows:
        if name not in takes:
            raise Unknown(name)
    if any([len(forms) != takes[name] for name, forms, _ in rows]):
        raise BadHouse("forms")


def _within(components):
    """For each component the names of those that can come to stand within it, as the keys of a dict."""
    inner = {component.name: {row[0]: True for row in handing(component.shape)} for component in components}
    # Each turn reaches one level further at least, so there need not be more turns than components.
    for _ in components:
        inner = {name: {**told, **_all_of(inner, told)} for name, told in inner.items()}
    return inner


def _all_of(inner, names):
    """All that stands within one of these names, as the keys of a dict."""
    return {below: True for name in names for below in inner[name]}


def _check_within(components):
    """Raise Ring or BadHouse unless no component stands within itself and none has asks within an island."""
    inner = _within(components)
    for component in components:
        if component.name in inner[component.name]:
            raise Ring(component.name)
    asking = [component.name for component in components if component.asks]
    for component in components:
        if component.island is not None:
            if any([name == component.name or name in inner[component.name] for name in asking]):
                raise BadHouse("island")


def _most_of(components, root):
    """The greatest number of instances, counted from the root."""
    rows = {component.name: handing(component.shape) for component in components}
    counts = {name: 1 for name in rows}
    # No component stands within itself, so all counts hold when each component has had its turn at each level.
    for _ in components:
        counts = {name: 1 + sum([many * counts[told] for told, _, many in rows[name]]) for name in rows}
    return counts[root]


class House:
    """Components with a root and what else a page is drawn with, checked when it is made; it never changes."""

    def __init__(self, components, root, *, far=((1, 2, 3, 1),), room=2, focus="near", elder=()):
        self.components = components
        self.root = root
        self.far = far
        self.room = room
        self.focus = focus
        self.elder = elder
        for part, is_right in CHECKS:
            if not is_right(self):
                raise BadHouse(part)
        self.components = tuple(components)
        _check_handing(components)
        _check_within(components)
        self._most = _most_of(components, root)
        if self._most > MOST_INSTANCES:
            raise TooMany(self._most)
        self._named = {component.name: component for component in components}

    @property
    def most(self):
        """The greatest number of instances."""
        return self._most

    def __getitem__(self, name):
        if not isinstance(name, str) or name not in self._named:
            raise Unknown(name)
        return self._named[name]

    def __iter__(self):
        return iter(self.components)

    def changed(self, **parts):
        """A new house with these parts, and the others as they are."""
        told = {
            "components": list(self.components), "root": self.root, "far": self.far, "room": self.room,
            "focus": self.focus, "elder": self.elder, **parts,
        }
        return House(**told)

    def replaced(self, component):
        """A new house with this component in the place of the one with its name."""
        if component.name not in self._named:
            raise Unknown(component.name)
        rows = [component if told.name == component.name else told for told in self.components]
        return self.changed(components=rows)
