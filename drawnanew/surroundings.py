"""Surroundings: the widest house in which a component can stand, with stubs in the place of its children."""

from drawnanew.components import Component
from drawnanew.houses import House
from drawnanew.shapes import button_shape, col_shape, handing, numbered, put_shape, row_shape, text_shape, when_shape

LETTERS = "abcdefghijklmnopqrstuvwxyz"


def _spare_names(taken, many):
    """The first so many spare names that are not taken."""
    names = list(LETTERS) + ["a" + letter for letter in LETTERS]
    return [name for name in names if name not in taken][:many]


def _press_words(component):
    """The words of the deeds and of the buttons of a component."""
    buttons = [shape[1] for shape in numbered(component.shape) if shape[0] == "button"]
    return [word for word, _, _ in component.deeds] + buttons


def _growing(word, cell):
    """A deed that sets the cell to one more and does not go on."""
    return (word, ((cell, ("sum", ("get", cell), ("is", 1))),), False)


def stub(component, child):
    """The stub of a child in this component."""
    gives = [name for name, _, _ in component.gives]
    names = _spare_names(gives, len(child.takes) + 1)
    cell = names[-1]
    word = _spare_names(_press_words(component), 1)[0]
    shapes = [text_shape(("get", name)) for name in names[:-1] + gives + [cell]]
    shapes.extend([button_shape(told) for told in [word] + [deed[0] for deed in component.deeds]])
    return Component(
        child.name, col_shape(*shapes), takes=tuple([(name, size) for name, (_, size) in zip(names, child.takes)]),
        hears=tuple([(name, size, 0) for name, size, _ in component.gives]), cells=((cell, 2, 0),),
        deeds=(_growing(word, cell),),
    )


def _shown_cells(component):
    """The cells of the new root for the values that the component takes and hears."""
    return [(name, size, 0) for name, size in component.takes] + list(component.hears)


def _own_deeds(component, shown, names):
    """The deeds of the new root with spare words; the names are those of the next cells and of the last one."""
    words = _spare_names(_press_words(component), len(shown) + 2)
    deeds = [_growing(word, name) for word, name in zip(words, names[:-1])]
    if shown:
        deeds.append((words[len(shown)], _stepping(shown, names), False))
    return deeds + [_growing(words[len(deeds)], names[-1])]


def _stepping(shown, names):
    """What sets each shown cell to the value of its next cell."""
    return tuple([(row[0], ("get", name)) for row, name in zip(shown, names)])


def _new_root(name, component):
    """The root of the widest house of a component, with this name."""
    shown = _shown_cells(component)
    names = _spare_names([row[0] for row in shown], len(shown) + 1)
    nexts = [(told, size, start) for told, (_, size, start) in zip(names, shown)]
    deeds = _own_deeds(component, shown, names)
    buttons = [button_shape(word) for word, _, _ in deeds]
    if shown:
        deeds.extend([(word, _stepping(shown, names), False) for word, _, on in component.deeds if on])
    handed = [("get", told) for told, _ in component.takes]
    inner = when_shape(("get", names[-1]), put_shape(component.name, *handed), row_shape())
    return Component(
        name, col_shape(*buttons, inner), cells=tuple(shown + nexts + [(names[-1], 2, 1)]),
        gives=tuple([(told, size, ("get", told)) for told, size, _ in component.hears]), deeds=tuple(deeds),
    )


def widest(house, name):
    """The widest house of the component with this name."""
    component = house[name]
    children = list({row[0]: True for row in handing(component.shape)})
    stubs = [stub(component, house[child]) for child in children]
    root = _new_root(_spare_names([told.name for told in house], 1)[0], component)
    return House(
        [root, component.changed(island=None)] + stubs, root.name, far=house.far, room=house.room, focus=house.focus)
