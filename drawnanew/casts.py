"""Casts: all living instances of a house, told by their paths."""

from drawnanew.forms import is_whole
from drawnanew.instances import Instance, is_child


def _is_step(thing):
    """Whether the thing can be a step of a place."""
    return isinstance(thing, tuple) and all([is_whole(number) for number in thing])


class Cast:
    """The living instances of a house.

    On the page are those that the root leads to. Others are there only in rounds in any order, in which a child that
    is not drawn any more stays aside.
    """

    def __init__(self, house):
        self.house = house
        self.living = {}
        self._many = 0

    def copy(self):
        """A new cast with copies of all instances."""
        twin = Cast(self.house)
        twin.living = {path: instance.copy() for path, instance in self.living.items()}
        twin._many = self._many
        return twin

    def make(self, name, path):
        """Make a new instance of the component at this path."""
        instance = Instance(self.house[name], path, self._many)
        self._many += 1
        self.living[path] = instance
        return instance

    def paths(self, path=()):
        """The path and those of all instances beneath it on the page, in page order."""
        found = [path]
        for child in self.living[path].children:
            found.extend(self.paths(child))
        return found

    def upward(self, path=()):
        """The same paths, each behind all those beneath it."""
        found = []
        for child in self.living[path].children:
            found.extend(self.upward(child))
        found.append(path)
        return found

    def place_of(self, path):
        """The place of the instance at this path."""
        return tuple([self.living[path[:many + 1]].last for many in range(len(path))])

    def places(self):
        """The places of all instances on the page, by their paths in page order."""
        return {path: self.place_of(path) for path in self.paths()}

    def path_at(self, place):
        """The path of the instance on the page at this place, or None."""
        if not isinstance(place, tuple) or not all([_is_step(step) for step in place]):
            return None
        path = ()
        for step in place:
            path = self._child_at(path, step)
            if path is None:
                return None
        return path

    def _child_at(self, path, step):
        """The path of the child with this last step of its place, or None."""
        for child in self.living[path].children:
            if self.living[child].last == step:
                return child
        return None

    def given(self, instance):
        """The values that the instance is given for the names that it takes and hears."""
        values = dict(instance.handed)
        for name, size, default in instance.component.hears:
            values[name] = self._heard(instance.path, name, default) % size
        return values

    def _heard(self, path, name, default):
        """What the nearest instance above that gives the name had for it, or the default."""
        for many in reversed(range(len(path))):
            gave = self.living[path[:many]].gave
            if name in gave:
                return gave[name]
        return default

    def is_due(self, instance):
        """Whether the instance must be drawn."""
        drawn = instance.drawn
        if drawn is None or any([drawn[name] != value for name, value in instance.state.items()]):
            return True
        given = self.given(instance)
        return any([drawn[name] != given[name] for name in instance.component.looks])

    def draw(self, instance, given):
        """Draw the instance with these values; the paths of the children that it draws no more, and of those made."""
        old = instance.children
        children = instance.work_out(given)
        paths = [instance.path + (child[0],) for child in children]
        made = []
        for path, (_, last, name, values) in zip(paths, children):
            if path not in self.living:
                self.make(name, path)
                made.append(path)
            child = self.living[path]
            child.last = last
            child.hand(values)
        instance.children = tuple(paths)
        kept = {path: True for path in paths}
        return ([path for path in old if path not in kept], made)

    def remove(self, path):
        """Remove the instance with everything beneath it; their paths, in page order."""
        gone = self.paths(path)
        for inner in gone:
            del self.living[inner]
        return gone

    def node(self, path=()):
        """The node of the instance, with all nodes beneath it as they are now."""
        return self._filled(self.living[path].nodes, path)

    def _filled(self, part, path):
        """The node of a part that the instance at this path drew."""
        if is_child(part):
            return self.node(path + (part[0],))
        mark, label, parts = part
        return (mark, label, tuple([self._filled(inner, path) for inner in parts]))
