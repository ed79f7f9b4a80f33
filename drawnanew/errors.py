"""All errors of the program.

Each one keeps what it is made with in its fields, and Python shows just that as its message.
"""


class ScreenError(ValueError):
    """The base class of all errors of the program."""


class BadForm(ScreenError):
    """A part of a form is not as described, or a form has too many levels."""

    def __init__(self, part):
        self.part = part


class NoName(ScreenError):
    """A name is looked for and is not there."""

    def __init__(self, name):
        self.name = name


class TooMany(ScreenError):
    """There are more of a thing than the program goes through."""

    def __init__(self, count):
        self.count = count


class BadPatch(ScreenError):
    """A patch is not of the told form."""

    def __init__(self, patch):
        self.patch = patch


class TwiceMarked(ScreenError):
    """A mark stands on a page twice."""

    def __init__(self, mark):
        self.mark = mark


class NoNode(ScreenError):
    """A page has no such node with this mark."""

    def __init__(self, mark):
        self.mark = mark


class BadPlace(ScreenError):
    """A child cannot stand at this index."""

    def __init__(self, place):
        self.place = place


class RootStays(ScreenError):
    """The root is dropped or moved."""

    def __init__(self, mark):
        self.mark = mark


class NotOnePage(ScreenError):
    """Two pages that belong together are not one page."""

    def __init__(self, mark):
        self.mark = mark


class BadRule(ScreenError):
    """A rule of the focus is none."""

    def __init__(self, rule):
        self.rule = rule


class BadRow(ScreenError):
    """A row of items is not as described."""

    def __init__(self, row):
        self.row = row


class NoItem(ScreenError):
    """A row has no such item."""

    def __init__(self, item):
        self.item = item


class BadComponent(ScreenError):
    """A part of a component is not as described."""

    def __init__(self, part):
        self.part = part


class BadHouse(ScreenError):
    """A part of a house is not as described."""

    def __init__(self, part):
        self.part = part


class Unknown(ScreenError):
    """A house has no component with this name."""

    def __init__(self, name):
        self.name = name


class Ring(ScreenError):
    """A component can come to stand within itself."""

    def __init__(self, name):
        self.name = name


class NoInstance(ScreenError):
    """No instance stands at this place."""

    def __init__(self, place):
        self.place = place


class NotDue(ScreenError):
    """The instance at this place must not be drawn."""

    def __init__(self, place):
        self.place = place


class BadNames(ScreenError):
    """Names of a schedule are not as described."""

    def __init__(self, told):
        self.told = told


class BadFence(ScreenError):
    """A word is not that of a fence."""

    def __init__(self, fence):
        self.fence = fence


class NoAnswer(ScreenError):
    """No open question has this number."""

    def __init__(self, number):
        self.number = number


class ArmedTwice(ScreenError):
    """An effect is armed while it is armed."""

    def __init__(self, owner, word):
        self.owner = owner
        self.word = word


class NotArmed(ScreenError):
    """An effect is cleaned while it is not armed."""

    def __init__(self, owner, word):
        self.owner = owner
        self.word = word


class OldValue(ScreenError):
    """An effect is cleaned with another value than it was armed with."""

    def __init__(self, owner, word):
        self.owner = owner
        self.word = word


class BadEvent(ScreenError):
    """An event is not of the told form."""

    def __init__(self, event):
        self.event = event


class NoMark(ScreenError):
    """A house has no such mark."""

    def __init__(self, mark):
        self.mark = mark


class Wrong(ScreenError):
    """A house has a wrong row of events."""

    def __init__(self, row):
        self.row = row


class Blamed(ScreenError):
    """This mark is to blame for a wrong row."""

    def __init__(self, mark):
        self.mark = mark


class NoPaper(ScreenError):
    """The paper of a component is not good."""

    def __init__(self, component):
        self.component = component


class BadLine(ScreenError):
    """A word of a line cannot stand there."""

    def __init__(self, line, word):
        self.line = line
        self.word = word
