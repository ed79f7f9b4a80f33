"""Instances: the living copies of components, and what they do when they are drawn."""

from drawnanew.forms import value_of


def _mark_ahead(path):
    """What the marks of the nodes of an instance begin with."""
    return "".join([".".join([str(number) for number in step]) + "/" for step in path])


def _handed(forms, values):
    """The values of the forms that are handed down."""
    return tuple([value_of(form, values) for form in forms])


def _each_parts(plan, values):
    """The children of an each, one for each item of the row that is shown."""
    number, shape, _, rows = plan
    _, form, _, _, component, forms = shape
    parts = []
    for item, at, step in rows[value_of(form, values) % len(rows)]:
        parts.append((step, (number, item), component, _handed(forms, {**values, "item": item, "at": at})))
    return parts


def drawn_parts(plan, values, ahead):
    """What a shape draws for these values: nodes (mark, label, parts), and children (step, last step of the place,
    component, handed values)."""
    number, shape, plans, _ = plan
    word = shape[0]
    if word == "each":
        return _each_parts(plan, values)
    if word == "put":
        return [((number,), (number,), shape[1], _handed(shape[2], values))]
    if word == "when":
        return drawn_parts(plans[1] if value_of(shape[1], values) == 0 else plans[0], values, ahead)
    mark = ahead + str(number)
    if word == "text":
        return [(mark, "text " + str(value_of(shape[1], values)), ())]
    if word == "button":
        return [(mark, "button " + shape[1], ())]
    parts = []
    for inner in plans:
        parts.extend(drawn_parts(inner, values, ahead))
    return [(mark, word, tuple(parts))]


def is_child(part):
    """Whether a part that was drawn is a child; the others are nodes."""
    return len(part) == 4


def children_in(part):
    """The children among the parts of what was drawn, in page order."""
    if is_child(part):
        return [part]
    found = []
    for inner in part[2]:
        found.extend(children_in(inner))
    return found


def button_words(part):
    """The words of the buttons in what was drawn, by their marks, in page order; those of children are not there."""
    if is_child(part):
        return {}
    if part[1].startswith("button "):
        return {part[0]: part[1][len("button "):]}
    found = {}
    for inner in part[2]:
        found.update(button_words(inner))
    return found


class Instance:
    """A living copy of a component.

    What it keeps in tuples and dicts is replaced when it changes, never changed in its place, but for its state and
    its questions; so a copy may share all else.
    """

    def __init__(self, component, path, who):
        self.component = component
        self.path = path
        self.who = who
        # The last step of its place, and the values that were handed down to it, by name.
        self.last = ()
        self.handed = {}
        # The values of its cells and answers, and for each ask the question that was asked last, with its ticket.
        self.state = {name: start for name, _, start in component.cells}
        self.state.update({name: 0 for name, _, _ in component.asks})
        self.asked = {}
        # The values of its names at its last drawing, and what it gave, had as effects and drew then.
        self.drawn = None
        self.gave = {}
        self.effects = ()
        self.nodes = ()
        self.buttons = {}
        self.inner = ()
        self.children = ()

    def copy(self):
        """A new instance with the same state."""
        twin = Instance(self.component, self.path, self.who)
        twin.last = self.last
        twin.handed = self.handed
        twin.state = dict(self.state)
        twin.asked = dict(self.asked)
        twin.drawn = self.drawn
        twin.gave = self.gave
        twin.effects = self.effects
        twin.nodes = self.nodes
        twin.buttons = self.buttons
        twin.inner = self.inner
        twin.children = self.children
        return twin

    def hand(self, values):
        """Take the values that are handed down, modulo the sizes of the names."""
        self.handed = {name: value % size for (name, size), value in zip(self.component.takes, values)}

    def work_out(self, given):
        """Be drawn with the values that it is given; the children that it draws, in order."""
        values = {**given, **self.state}
        # The same values would lead to the same again.
        if values != self.drawn:
            self._draw_with(values)
        return self.inner

    def _draw_with(self, values):
        """Work out what these values lead to."""
        component = self.component
        self.drawn = values
        self.gave = {name: value_of(form, values) % size for name, size, form in component.gives}
        self.effects = tuple([
            (word, value_of(form, values), tuple([values[name] for name in names]))
            for word, form, names in component.effects
        ])
        self.nodes = drawn_parts(component.plan, values, _mark_ahead(self.path))[0]
        self.buttons = button_words(self.nodes)
        self.inner = tuple(children_in(self.nodes))

    def has_button(self, word):
        """Whether it drew a button with this word."""
        return any([told == word for told in self.buttons.values()])

    def do_deed(self, word, item):
        """Do the deed of this word, if there is one; whether the press goes on upward."""
        for told, sets, on in self.component.deeds:
            if told == word:
                values = {**self.drawn, **self.state, "item": item}
                news = {cell: value_of(form, values) % self.component.size_of(cell) for cell, form in sets}
                self.state.update(news)
                return on
        return True
