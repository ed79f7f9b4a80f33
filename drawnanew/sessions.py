"""The kept machine, which goes by the marks of its house."""

from drawnanew.anew import new_look
from drawnanew.focusing import buttons
from drawnanew.laying import Laid
from drawnanew.machines import Machine
from drawnanew.pages import nodes_in
from drawnanew.patches import between

KINDS = ("press", "next", "back", "enter", "land", "far", "take")

# The words for the parts of a look, in their order.
LOOK_PARTS = ("page", "focus", "effects", "asks")


class Report:
    """What an event did, with the patches that lead to the page behind it."""

    def __init__(self, told, patches):
        self.made = told["made"]
        self.drawn = told["drawn"]
        self.dropped = told["dropped"]
        self.taken = told["taken"]
        self.log = told["log"]
        self.asked = told["asked"]
        self.patches = patches


def kept_machine(house):
    """A machine that goes by the marks of the house, as it stands at the start."""
    machine = Machine(house, False)
    machine.start()
    return machine


def frozen_places(machine):
    """The places of the frozen islands, in page order."""
    return [place for path, place in machine.cast.places().items() if path in machine.frozen_paths]


def _presses(machine):
    """The presses of all buttons in page order, each once."""
    told = {}
    for path, instance in machine.cast.living.items():
        told.update({mark: (path, word) for mark, word in instance.buttons.items()})
    found = {}
    for mark in buttons(machine.sheet):
        path, word = told[mark]
        found[("press", machine.cast.place_of(path), word)] = True
    return list(found)


def listed_events(machine, kinds):
    """The events of these kinds that can come next, in order."""
    presses = _presses(machine)
    told = {
        "press": presses,
        "next": [("next",)] if presses else [],
        "back": [("back",)] if presses else [],
        "enter": [] if machine.focus.at is None else [("enter",)],
        "land": [("land", number) for number in range(len(machine.line.entries()))],
        "far": [("far",)] if machine.line.has_next() else [],
        "take": [("take", place) for place in frozen_places(machine)],
    }
    return [event for kind in KINDS if kind in kinds for event in told[kind]]


def _instance_told(machine, path):
    """What likeness tells of the instance at this path."""
    instance = machine.cast.living[path]
    given = machine.cast.given(instance)
    return (
        path, machine.cast.place_of(path), path in machine.frozen_paths,
        tuple([(name, value, instance.drawn[name]) for name, value in given.items()]),
        tuple(list(instance.state.items())), tuple([question for question, _ in instance.asked.values()]),
        tuple(list(instance.gave.items())), instance.effects,
    )


def kept_likeness(machine):
    """A tuple that is equal for two kept machines of one house exactly if they are alike."""
    values = {(owner, word): value for owner, word, value in machine.board.armed()}
    return (
        tuple([_instance_told(machine, path) for path in machine.cast.paths()]),
        tuple([(mark, label, len(children)) for mark, label, children in nodes_in(machine.sheet.top)]),
        tuple([(path, word, values[(path, word)], seen) for path, word, _, seen in machine.entries()]),
        machine.focus.at, machine.line.edition, machine.questions_told(), tuple(machine.queue),
    )


class Session:
    """The kept machine of a house."""

    def __init__(self, house):
        self._machine = kept_machine(house)

    @property
    def page(self):
        """The page that is kept."""
        return self._machine.sheet

    @property
    def focused(self):
        """The mark of the button that has the focus, or None."""
        return self._machine.focus.at

    @property
    def at_rest(self):
        """Whether no press is queued."""
        return len(self._machine.queue) == 0

    def do(self, event):
        """Do the event and report of it."""
        old = self._machine.sheet
        told = self._machine.do(event)
        return Report(told, between(old, self._machine.sheet))

    def look(self):
        """The page, the number of the button with the focus, the armed effects and the open questions."""
        return self._machine.look()

    def laid(self):
        """The page, laid out."""
        return Laid(self._machine.sheet)

    def instances(self):
        """The pairs of the place and the name of the component of each instance, in page order."""
        return self._machine.instances()

    def value(self, place, name):
        """The value of a name of the instance at the place."""
        return self._machine.value(place, name)

    def armed(self):
        """The rows (place, word, value) of all armed effects."""
        return self._machine.armed()

    def questions(self):
        """The rows (place, word, question) of all open questions."""
        return self._machine.questions()

    def frozen(self):
        """The places of the frozen islands, in page order."""
        return frozen_places(self._machine)

    def queued(self):
        """The pairs (place, word) of the queued presses, in order."""
        return [(place, word) for place, word, _ in self._machine.queue]

    def events(self, kinds=KINDS):
        """The events of these kinds that can come next, in order."""
        return listed_events(self._machine, kinds)

    def likeness(self):
        """A value that is equal for two Sessions of one house exactly if they are alike."""
        return kept_likeness(self._machine)

    def copy(self):
        """A new Session that stands as this one does."""
        twin = Session(self._machine.house)
        twin._machine = self._machine.copy()
        return twin

    def trying(self):
        """For a with statement behind which the Session is what it was."""
        return Trying(self)


class Trying:
    """Puts a Session back, when it is left, to what it was when it was entered."""

    def __init__(self, session):
        self._session = session
        self._kept = None

    def __enter__(self):
        self._kept = self._session._machine.copy()
        return self._session

    def __exit__(self, kind, value, trace):
        session = self._session
        session._machine = self._kept


def tried(session, events):
    """The looks of the session behind each event; it stays as it is."""
    looks = []
    with session.trying() as held:
        for event in events:
            held.do(event)
            looks.append(held.look())
    return looks


def first_parting(first, second):
    """The word of the first part in which two looks differ, or None."""
    for word, one, other in zip(LOOK_PARTS, first, second):
        if one != other:
            return word
    return None


def machines_part(kept, new):
    """None if a kept machine and a new one agree, otherwise the word of the first part in which their looks differ."""
    if kept.queue:
        return None
    return first_parting(kept.look(), new_look(new, frozen_places(kept)))


def disagreement(session, anew):
    """None if both agree, otherwise the word of the first part in which their looks differ."""
    return machines_part(session._machine, anew._machine)


def play(house, events):
    """The looks of a new Session at the start and behind each event."""
    session = Session(house)
    looks = [session.look()]
    for event in events:
        session.do(event)
        looks.append(session.look())
    return looks
