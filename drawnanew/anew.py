"""The new machine, which goes by no marks and draws the whole page anew after each event."""

from drawnanew.machines import Machine
from drawnanew.shapes import inner_shapes, with_inner


def _unmarked_shape(shape):
    """The shape, in which the key of each each is the item."""
    if shape[0] == "each":
        return shape[:3] + (("get", "item"),) + shape[4:]
    return with_inner(shape, tuple([_unmarked_shape(part) for part in inner_shapes(shape)]))


def _unmarked_component(component):
    """The component without its marks."""
    return component.changed(
        looks=None, island=None, shape=_unmarked_shape(component.shape),
        asks=tuple([(word, form, "last") for word, form, _ in component.asks]),
        effects=tuple([(word, form, component.names) for word, form, _ in component.effects]),
    )


def new_machine(house):
    """A machine that goes by no marks of the house, as it stands at the start."""
    components = [_unmarked_component(component) for component in house]
    machine = Machine(house.changed(components=components, elder=()), True)
    machine.start()
    return machine


def _begins(place, frozen):
    """Whether the place begins with one of the frozen ones."""
    return any([place[:len(told)] == told for told in frozen])


def new_look(machine, frozen):
    """The look of a new machine, without the armed effects of places that begin with a frozen one."""
    shown, at, armed, asked = machine.look()
    return (shown, at, tuple([row for row in armed if not _begins(row[0], frozen)]), asked)


def new_likeness(machine):
    """A tuple that is equal for two new machines of one house exactly if they are alike."""
    rows = []
    for path, place in machine.cast.places().items():
        instance = machine.cast.living[path]
        questions = tuple([question for question, _ in instance.asked.values()])
        rows.append((place, tuple(list(instance.state.items())), questions))
    return (tuple(rows), machine.focus.at, machine.line.edition, machine.questions_told())


class Anew:
    """The new machine of a house."""

    def __init__(self, house):
        self._house = house
        self._machine = new_machine(house)

    @property
    def page(self):
        """The page as it was drawn last."""
        return self._machine.sheet

    def do(self, event):
        """Do the event and draw the whole page anew."""
        self._machine.do(event)

    def look(self, *frozen):
        """The look, without the armed effects of places that begin with one of the frozen ones."""
        return new_look(self._machine, frozen)

    def instances(self):
        """The pairs of the place and the name of the component of each instance, in page order."""
        return self._machine.instances()

    def value(self, place, name):
        """The value of a name of the instance at the place."""
        return self._machine.value(place, name)

    def likeness(self):
        """A value that is equal for two Anews of one house exactly if they are alike."""
        return new_likeness(self._machine)

    def copy(self):
        """A new Anew that stands as this one does."""
        twin = Anew(self._house)
        twin._machine = self._machine.copy()
        return twin
