"""Values, names and forms: what a component works out."""

from drawnanew.errors import BadForm, NoName

MOST_LETTERS = 8
MOST_LEVELS = 5

# How many forms stand behind the first item of a form that has parts.
MANY_PARTS = {"sum": 2, "same": 2, "pick": 3}


def is_whole(thing):
    """Whether the thing is an integer; True and False are none."""
    return isinstance(thing, int) and not isinstance(thing, bool)


def is_value(thing):
    """Whether the thing is an integer from 0 to 9."""
    return is_whole(thing) and 0 <= thing <= 9


def is_name(thing):
    """Whether the thing is a string of 1 to 8 letters from a to z."""
    if not isinstance(thing, str) or not 1 <= len(thing) <= MOST_LETTERS:
        return False
    return all(["a" <= sign <= "z" for sign in thing])


def inner_forms(form):
    """The forms that are parts of a form."""
    if form[0] in MANY_PARTS:
        return form[1:]
    return ()


def _well_made(part):
    """Whether a part of a form is as described; its own parts have no say."""
    if not isinstance(part, tuple) or not part or not isinstance(part[0], str):
        return False
    if part[0] == "is":
        return len(part) == 2 and is_value(part[1])
    if part[0] == "get":
        return len(part) == 2 and is_name(part[1])
    return part[0] in MANY_PARTS and len(part) == MANY_PARTS[part[0]] + 1


def check_form(parts):
    """Raise BadForm unless the parts are a form."""
    deepest = 0
    waiting = [(parts, 1)]
    while waiting:
        part, level = waiting.pop()
        if not _well_made(part):
            raise BadForm(part)
        if level > deepest:
            deepest = level
        # The last one in is the next one out, so that parts come in order.
        inner = [(form, level + 1) for form in inner_forms(part)]
        waiting.extend(inner[::-1])
    if deepest > MOST_LEVELS:
        raise BadForm(parts)


def value_of(form, values):
    """The value of a form, given as a tuple, for a dict of values by name."""
    word = form[0]
    if word == "is":
        return form[1]
    if word == "get":
        if form[1] not in values:
            raise NoName(form[1])
        return values[form[1]]
    first = value_of(form[1], values)
    if word == "pick":
        return value_of(form[3] if first == 0 else form[2], values)
    second = value_of(form[2], values)
    if word == "sum":
        return (first + second) % 10
    return 1 if first == second else 0


def names_in(form):
    """The names in a form, in the order of the written form, each once."""
    if form[0] == "get":
        return (form[1],)
    names = []
    for inner in inner_forms(form):
        for name in names_in(inner):
            if name not in names:
                names.append(name)
    return tuple(names)


def words_in(form):
    """The words of the written form, in order."""
    if form[0] not in MANY_PARTS:
        return [form[0], str(form[1])]
    words = [form[0]]
    for inner in inner_forms(form):
        words.extend(words_in(inner))
    return words


class Form:
    """A form, checked when it is made; it never changes."""

    def __init__(self, parts):
        check_form(parts)
        self._parts = parts

    @property
    def parts(self):
        """The form as a tuple."""
        return self._parts

    @property
    def names(self):
        """The names in the form, in the order of the written form, each once."""
        return names_in(self._parts)

    def __call__(self, values):
        """The value for a dict of values by name."""
        return value_of(self._parts, values)

    def __add__(self, other):
        if not isinstance(other, Form):
            return NotImplemented
        return Form(("sum", self._parts, other.parts))

    def __eq__(self, other):
        return isinstance(other, Form) and self._parts == other._parts

    def __str__(self):
        return " ".join(words_in(self._parts))

    @staticmethod
    def constant(value):
        """The form that has this value."""
        return Form(("is", value))

    @staticmethod
    def named(name):
        """The form that has the value of this name."""
        return Form(("get", name))

    @classmethod
    def summed(cls, first, *rest):
        """The sum of Forms, added from the left."""
        total = cls(first.parts)
        for form in rest:
            total = cls(("sum", total.parts, form.parts))
        return total
