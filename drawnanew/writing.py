"""Houses and places as texts."""

from drawnanew.forms import words_in
from drawnanew.shapes import inner_shapes


def write_place(place):
    """The text of a place."""
    if place == ():
        return "."
    return "/".join([":".join([str(number) for number in step]) for step in place])


def _form(form):
    """The written form."""
    return " ".join(words_in(form))


def _forms(forms):
    """The written forms, with a space ahead of each."""
    return "".join([" " + _form(form) for form in forms])


def _names(names):
    """The names, with a space ahead of each."""
    return "".join([" " + name for name in names])


def _sets(sets):
    """What a deed sets."""
    return " and ".join([cell + " " + _form(form) for cell, form in sets])


def _menu(menu):
    """The items of the rows of a menu, with a space ahead of each, and with commas between the rows."""
    return " ,".join(["".join([f" {item}" for item in row]) for row in menu])


def _shape_line(shape):
    """The line of a shape; those of its parts have no say."""
    word = shape[0]
    if word in ("text", "when"):
        return word + " " + _form(shape[1])
    if word == "button":
        return "button " + shape[1]
    if word == "put":
        return "put " + shape[1] + _forms(shape[2])
    if word == "each":
        _, form, menu, key, component, forms = shape
        return f"each {_form(form)} rows{_menu(menu)} key {_form(key)} put {component}{_forms(forms)}"
    return word


def _shape_lines(shape):
    """The lines of a shape and of its parts."""
    lines = [_shape_line(shape)]
    for inner in inner_shapes(shape):
        lines.extend(_shape_lines(inner))
    if shape[0] in ("row", "col", "when"):
        lines.append("end")
    return lines


def _island_lines(island):
    """The line of an island, if there is one."""
    if island is None:
        return []
    press, check = island
    word = "checked" if check else "trusted"
    return [f"island {press} {word}"]


def _deed_line(deed):
    """The line of a deed."""
    word, sets, on = deed
    way = "goes" if on else "stops"
    return f"deed {word} {way} {_sets(sets)}"


def _component_lines(component):
    """The lines of a component."""
    lines = ["component " + component.name]
    lines.extend([f"take {name} {size}" for name, size in component.takes])
    lines.extend([f"hear {name} {size} {default}" for name, size, default in component.hears])
    lines.extend([f"cell {name} {size} {start}" for name, size, start in component.cells])
    lines.extend([f"ask {name} {fence} {_form(form)}" for name, form, fence in component.asks])
    lines.extend([f"give {name} {size} {_form(form)}" for name, size, form in component.gives])
    lines.extend([f"effect {word} {_form(form)} on{_names(names)}" for word, form, names in component.effects])
    lines.extend([_deed_line(deed) for deed in component.deeds])
    lines.append("look" + _names(component.looks))
    return lines + _island_lines(component.island) + _shape_lines(component.shape)


def write_house(house):
    """The lines of the text of a house."""
    lines = ["house " + house.root]
    lines.extend(["far " + " ".join([str(answer) for answer in edition]) for edition in house.far])
    lines.extend([f"room {house.room}", "focus " + house.focus])
    lines.extend([f"elder {cell} {worth}" for cell, worth in house.elder])
    for component in house:
        lines.extend(_component_lines(component))
    return lines
