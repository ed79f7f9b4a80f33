"""Shapes: what a component draws."""

from drawnanew.rows import Key


def text_shape(form):
    """A node with the value of the form."""
    return ("text", form)


def button_shape(word):
    """A button with this word."""
    return ("button", word)


def row_shape(*parts):
    """A node whose parts stand side by side."""
    return ("row", parts)


def col_shape(*parts):
    """A node whose parts stand one under another."""
    return ("col", parts)


def when_shape(form, first, second):
    """The first shape if the value of the form is not 0, otherwise the second one."""
    return ("when", form, first, second)


def put_shape(component, *forms):
    """An instance of the component with the values of these forms."""
    return ("put", component, forms)


def each_shape(form, menu, key, component, *forms):
    """An instance of the component for each item of the row of the menu that the form tells."""
    return ("each", form, menu, key, component, forms)


def inner_shapes(shape):
    """The shapes that are parts of a shape."""
    if shape[0] in ("row", "col"):
        return shape[1]
    if shape[0] == "when":
        return shape[2:]
    return ()


def with_inner(shape, parts):
    """The shape with these parts in the place of the shapes that are its parts."""
    if shape[0] in ("row", "col"):
        return (shape[0], parts)
    if shape[0] == "when":
        return shape[:2] + parts
    return shape


def numbered(shape):
    """The tuple of all shapes, by number."""
    shapes = [shape]
    for part in inner_shapes(shape):
        shapes.extend(numbered(part))
    return tuple(shapes)


def levels(shape):
    """The number of levels of a shape."""
    deepest = 0
    for part in inner_shapes(shape):
        many = levels(part)
        if many > deepest:
            deepest = many
    return deepest + 1


def handing(shape):
    """The shapes, by number, that draw instances of a component, each as (component, forms, most instances)."""
    found = []
    for part in numbered(shape):
        if part[0] == "put":
            found.append((part[1], part[2], 1))
        if part[0] == "each":
            found.append((part[4], part[5], max([len(row) for row in part[2]])))
    return found


def _item_rows(shape, number):
    """For each row of an each its items, each with its place in the row and the step of its path."""
    key = Key(shape[3])
    rows = []
    for row in shape[2]:
        idents = key.idents(row)
        rows.append(tuple([(item, at, (number,) + idents[at]) for at, item in enumerate(row)]))
    return tuple(rows)


def plan_of(shape, number=0):
    """The shape with what no drawing changes: (number, shape, plans of its parts, rows of an each)."""
    plans = []
    ahead = number + 1
    for part in inner_shapes(shape):
        plans.append(plan_of(part, ahead))
        ahead += len(numbered(part))
    rows = _item_rows(shape, number) if shape[0] == "each" else ()
    return (number, shape, tuple(plans), rows)
