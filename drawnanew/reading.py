"""Houses and places, read from texts."""

from drawnanew.components import FENCES, PRESSES, Component
from drawnanew.errors import BadComponent, BadHouse, BadLine, Ring, TooMany, Unknown
from drawnanew.focusing import RULES
from drawnanew.houses import House
from drawnanew.wording import Words, is_number

SHAPE_WORDS = ("text", "button", "row", "col", "when", "put", "each")
MENU_WORDS = ("0", "1", "2", "3", "4", "5", "6", "7", "8", "9", ",", "key")

# How many digits a number of a place has at most.
PLACE_DIGITS = 2


def _read_step(text):
    """A step of a place, or None."""
    words = text.split(":")
    if len(words) > 2 or not all([is_number(word, PLACE_DIGITS) for word in words]):
        return None
    return tuple([int(word) for word in words])


def read_place(text):
    """The place that is written so, or None."""
    if text == ".":
        return ()
    steps = [_read_step(step) for step in text.split("/")]
    return None if None in steps else tuple(steps)


class Text:
    """The lines of a text, read one by one; those that are skipped are not among them."""

    def __init__(self, lines):
        self._rows = [
            (number, line) for number, line in enumerate(lines, start=1) if line != "" and not line.startswith("#")
        ]
        self._behind = len(lines) + 1
        self._at = 0

    def first(self):
        """The first word of the next line, or None behind the last line."""
        if self._at == len(self._rows):
            return None
        return self._rows[self._at][1].split(" ")[0]

    def line_of(self, told):
        """The words of the next line, behind the first one, which must be one of those told."""
        if self._at == len(self._rows):
            raise BadLine(self._behind, 1)
        number, line = self._rows[self._at]
        words = Words(number, line)
        words.read_one(told)
        self._at += 1
        return words


def _read_named(text, word):
    """Read the line of this word with a name; the number of the line and the name."""
    words = text.line_of((word,))
    name = words.read_name()
    words.finish()
    return (words.number, name)


def _read_rows(text, word, read_row):
    """Read all lines of this word that come next; the tuple of what they tell."""
    rows = []
    while text.first() == word:
        words = text.line_of((word,))
        rows.append(read_row(words))
        words.finish()
    return tuple(rows)


def _read_edition(words):
    return tuple([words.read_digit() for _ in range(4)])


def _read_elder(words):
    return (words.read_name(), words.read_digit())


def _read_take(words):
    return (words.read_name(), words.read_digit())


def _read_sized(words):
    return (words.read_name(), words.read_digit(), words.read_digit())


def _read_ask(words):
    name = words.read_name()
    fence = words.read_one(FENCES)
    return (name, words.read_form(), fence)


def _read_give(words):
    return (words.read_name(), words.read_digit(), words.read_form())


def _read_names(words):
    """Read all names that are left in the line."""
    names = []
    while words.more():
        names.append(words.read_name())
    return tuple(names)


def _read_forms(words):
    """Read all forms that are left in the line."""
    forms = []
    while words.more():
        forms.append(words.read_form())
    return tuple(forms)


def _read_effect(words):
    word = words.read_name()
    form = words.read_form()
    words.read_one(("on",))
    return (word, form, _read_names(words))


def _read_deed(words):
    word = words.read_name()
    on = words.read_one(("stops", "goes")) == "goes"
    sets = [(words.read_name(), words.read_form())]
    while words.more():
        words.read_one(("and",))
        sets.append((words.read_name(), words.read_form()))
    return (word, tuple(sets), on)


# The lines of a component with the parts that they tell, in order, and how they are read.
PART_LINES = (
    ("take", "takes", _read_take),
    ("hear", "hears", _read_sized),
    ("cell", "cells", _read_sized),
    ("ask", "asks", _read_ask),
    ("give", "gives", _read_give),
    ("effect", "effects", _read_effect),
    ("deed", "deeds", _read_deed),
)


def _read_looks(text):
    """Read the line of the looks, if it is there."""
    if text.first() != "look":
        return None
    return _read_names(text.line_of(("look",)))


def _read_island(text):
    """Read the line of the island, if it is there."""
    if text.first() != "island":
        return None
    words = text.line_of(("island",))
    press = words.read_one(PRESSES)
    check = words.read_one(("checked", "trusted")) == "checked"
    words.finish()
    return (press, check)


def _read_menu(words):
    """Read the rows of a menu and the word behind them."""
    words.read_one(("rows",))
    rows = [()]
    word = words.read_one(MENU_WORDS)
    while word != "key":
        if word == ",":
            rows.append(())
        else:
            rows[-1] = rows[-1] + (int(word),)
        word = words.read_one(MENU_WORDS)
    return tuple(rows)


def _read_each(words):
    """Read an each behind its first word."""
    form = words.read_form()
    menu = _read_menu(words)
    key = words.read_form()
    words.read_one(("put",))
    return ("each", form, menu, key, words.read_name(), _read_forms(words))


def _read_parts(text):
    """Read the shapes ahead of the line `end`, and this line."""
    parts = []
    while text.first() != "end":
        parts.append(_read_shape(text))
    text.line_of(("end",)).finish()
    return tuple(parts)


def _read_when(text, words):
    """Read a when behind its first word."""
    form = words.read_form()
    words.finish()
    first = _read_shape(text)
    second = _read_shape(text)
    text.line_of(("end",)).finish()
    return ("when", form, first, second)


def _read_shape(text):
    """Read the lines of a shape."""
    word = text.first()
    words = text.line_of(SHAPE_WORDS)
    if word in ("row", "col"):
        words.finish()
        return (word, _read_parts(text))
    if word == "when":
        return _read_when(text, words)
    if word == "put":
        return (word, words.read_name(), _read_forms(words))
    if word == "each":
        return _read_each(words)
    told = words.read_name() if word == "button" else words.read_form()
    words.finish()
    return (word, told)


def _read_component(text):
    """Read the lines of a component; it is made when the next one is reached or the text ends."""
    number, name = _read_named(text, "component")
    parts = {"name": name}
    for word, part, read_row in PART_LINES:
        parts[part] = _read_rows(text, word, read_row)
    parts["looks"] = _read_looks(text)
    parts["island"] = _read_island(text)
    parts["shape"] = _read_shape(text)
    # A line that cannot come next is refused ahead of a component that is not as described.
    if text.first() is not None and text.first() != "component":
        text.line_of(("component",))
    try:
        return Component(**parts)
    except BadComponent as why:
        raise BadLine(number, 0) from why


def read_house(lines):
    """The house that is told by the lines of a text."""
    text = Text(lines)
    _, root = _read_named(text, "house")
    far = _read_rows(text, "far", _read_edition)
    words = text.line_of(("room",))
    room = words.read_digit()
    words.finish()
    words = text.line_of(("focus",))
    focus = words.read_one(RULES)
    words.finish()
    elder = _read_rows(text, "elder", _read_elder)
    components = []
    while text.first() is not None:
        components.append(_read_component(text))
    try:
        return House(components, root, far=far, room=room, focus=focus, elder=elder)
    except (BadHouse, Unknown, Ring, TooMany) as why:
        raise BadLine(0, 0) from why
