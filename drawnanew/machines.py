"""The machine that draws a house: what both kinds of machines do at each event.

The kept machine and the new one differ in the marks of their houses alone, and in that the new one draws all
instances in each round.
"""

from drawnanew.asks import Line, fence_of
from drawnanew.casts import Cast
from drawnanew.effects import Effects
from drawnanew.errors import BadEvent, NoAnswer, NoInstance, NoName
from drawnanew.focusing import Focus, buttons
from drawnanew.forms import value_of
from drawnanew.laying import Laid
from drawnanew.pages import Page

# How many items an event with this first item has.
MANY_ITEMS = {"press": 3, "next": 1, "back": 1, "enter": 1, "point": 3, "land": 2, "far": 1, "take": 2}

MOST_QUEUED = 3


def check_event(event):
    """Raise BadEvent unless the event has a told word and as many items as that tells."""
    if not isinstance(event, tuple) or not event or not isinstance(event[0], str):
        raise BadEvent(event)
    if event[0] not in MANY_ITEMS or len(event) != MANY_ITEMS[event[0]]:
        raise BadEvent(event)


def drawn_afar(house):
    """The cast of the page that is drawn afar, with the elder values; nothing is asked there."""
    cast = Cast(house)
    root = cast.make(house.root, ())
    root.state.update({cell: value for cell, value in house.elder})
    waiting = [()]
    while waiting:
        instance = cast.living[waiting.pop()]
        _, made = cast.draw(instance, cast.given(instance))
        waiting.extend(made)
    return cast


class Machine:
    """A house that is drawn, with its effects, its open questions, its focus and its frozen islands."""

    def __init__(self, house, draws_all):
        self.house = house
        self.draws_all = draws_all
        self.cast = Cast(house)
        # What is drawn afar; nobody is there but in the first round.
        self.afar = Cast(house)
        self.board = Effects()
        self.line = Line(house.far, house.room)
        self.sheet = None
        self.focus = None
        # The paths of the frozen islands, and the queued presses: place, word, path of the island.
        self.frozen_paths = {}
        self.queue = []
        # The places behind the last round, by path.
        self.before = {}
        self.told = {}

    def start(self):
        """Draw the first page."""
        if any([component.island is not None for component in self.house]):
            self.afar = drawn_afar(self.house)
            self.before = self.afar.places()
        self._tell_anew()
        self.cast.make(self.house.root, ())
        self._round()
        self.afar = Cast(self.house)
        self.sheet = Page(self.cast.node())
        self.focus = Focus(self.sheet, self.house.focus)

    def copy(self):
        """A new machine that stands as this one does."""
        twin = Machine(self.house, self.draws_all)
        twin.cast = self.cast.copy()
        twin.board = self.board.copy()
        twin.line = self.line.copy()
        twin.sheet = self.sheet
        twin.focus = Focus(self.sheet, self.house.focus)
        twin.focus.put(self.focus.at)
        twin.frozen_paths = {path: True for path in self.frozen_paths}
        twin.queue = list(self.queue)
        twin.before = self.before
        return twin

    def do(self, event):
        """Do the event and return what there is to tell of it, as a dict of lists."""
        check_event(event)
        self._tell_anew()
        self._happen(event)
        self._round()
        ready = self._ready()
        while ready is not None:
            place, word, _ = self.queue.pop(ready)
            self._press(place, word)
            self._round()
            ready = self._ready()
        node = self.cast.node()
        if node != self.sheet.top:
            self.sheet = Page(node)
        self.focus.turn(self.sheet)
        return self.told

    def _tell_anew(self):
        """Begin to tell of an event."""
        self.told = {"made": [], "drawn": [], "dropped": [], "taken": [], "log": [], "asked": []}

    def _happen(self, event):
        """Let the event happen; nothing is drawn yet."""
        word = event[0]
        if word == "press":
            self._press(event[1], event[2])
        elif word in ("next", "back"):
            self.focus.step(word)
        elif word == "enter":
            self._press_node(self.focus.at)
        elif word == "point":
            self._press_node(Laid(self.sheet).hit(event[1], event[2]))
        elif word == "land":
            self._land(event[1])
        elif word == "far":
            self.line.turn()
        else:
            path = self.cast.path_at(event[1])
            if path in self.frozen_paths:
                self._take_over(path)

    def _press_node(self, mark):
        """Press the button with this mark, if it is one."""
        for path in self.cast.paths():
            words = self.cast.living[path].buttons
            if mark in words:
                self._press_at(path, words[mark])

    def _press(self, place, word):
        """Press the button with this word of the instance at the place, if there is one."""
        path = self.cast.path_at(place)
        if path is not None and self.cast.living[path].has_button(word):
            self._press_at(path, word)

    def _press_at(self, path, word):
        """A press reaches the instance at this path."""
        island = self.island_of(path)
        if island is not None:
            press = self.cast.living[island].component.island[0]
            if press == "kept" and len(self.queue) < MOST_QUEUED:
                self.queue.append((self.cast.place_of(path), word, island))
            if press != "takes":
                return
            self._take_over(island)
        self._go_up(path, word)

    def _go_up(self, path, word):
        """A press begins at the instance at this path and goes up as long as it is let."""
        item = 0
        goes_on = self.cast.living[path].do_deed(word, item)
        while goes_on and path != ():
            last = self.cast.living[path].last
            item = last[1] if len(last) == 2 else 0
            path = path[:-1]
            goes_on = self.cast.living[path].do_deed(word, item)

    def island_of(self, path):
        """The path of the frozen island that the instance at this path is of, or None."""
        for many in range(len(path) + 1):
            if path[:many] in self.frozen_paths:
                return path[:many]
        return None

    def _take_over(self, path):
        """Take over the frozen island at this path."""
        del self.frozen_paths[path]
        self.told["taken"].append(self.cast.place_of(path))

    def _land(self, number):
        """The answer of the open question with this number comes, if there is such a question."""
        try:
            entry = self.line.take(number)
        except NoAnswer:
            return
        if entry.owner in self.cast.living:
            instance = self.cast.living[entry.owner]
            fences = {word: fence for word, _, fence in instance.component.asks}
            question, ticket = instance.asked[entry.word]
            if fence_of(fences[entry.word]).lets(entry, instance.who, question, ticket):
                instance.state[entry.word] = entry.answer

    def _ready(self):
        """The index of the first queued press whose island is no longer frozen, or None."""
        for at, (_, _, island) in enumerate(self.queue):
            if island not in self.frozen_paths:
                return at
        return None

    def _round(self):
        """Visit the root and what is beneath it, and bring the effects up to date."""
        waiting = [()]
        while waiting:
            instance = self.cast.living[waiting.pop()]
            if self.draws_all or self.cast.is_due(instance):
                self._draw(instance)
            waiting.extend(list(instance.children)[::-1])
        self._bring()

    def _draw(self, instance):
        """Draw the instance; where it makes an island that is drawn afar, that one stands there."""
        path = instance.path
        island = self.island_of(path)
        if island is not None:
            self._take_over(island)
        self.told["made" if instance.drawn is None else "drawn"].append(self.cast.place_of(path))
        given = self.cast.given(instance)
        self._ask(instance, given)
        gone, made = self.cast.draw(instance, given)
        for child in gone:
            self._drop(child)
        for child in made:
            if child in self.afar.living and self.cast.living[child].component.island is not None:
                self._freeze(child)

    def _ask(self, instance, given):
        """Send the questions of the instance that are new."""
        for word, form, _ in instance.component.asks:
            question = value_of(form, {**given, **instance.state}) % 4
            if word not in instance.asked or instance.asked[word][0] != question:
                entry = self.line.send(instance.path, word, instance.who, question)
                instance.asked[word] = (question, entry.ticket)
                instance.state[word] = 0
                self.told["asked"].append((self.cast.place_of(instance.path), word, question))

    def _drop(self, path):
        """Drop the instance with everything beneath it."""
        for inner in self.cast.remove(path):
            self.told["dropped"].append(self.before[inner])
            self.queue = [row for row in self.queue if row[2] != inner]
            if inner in self.frozen_paths:
                del self.frozen_paths[inner]

    def _freeze(self, path):
        """Let the island stand as it was drawn afar, with the place and the values that were handed down here."""
        new = self.cast.living[path]
        for inner in self.afar.paths(path):
            self.cast.living[inner] = self.afar.living[inner].copy()
        island = self.cast.living[path]
        island.last = new.last
        island.handed = new.handed
        self.frozen_paths[path] = True
        if not island.component.island[1]:
            for inner in self.cast.paths(path):
                instance = self.cast.living[inner]
                instance.drawn = {**instance.drawn, **self.cast.given(instance)}

    def entries(self):
        """The entries of all effects but those of frozen islands: path, word, value, seen."""
        rows = []
        for path in self.cast.upward():
            if self.island_of(path) is None:
                rows.extend([(path, word, value, seen) for word, value, seen in self.cast.living[path].effects])
        return rows

    def _bring(self):
        """Bring the effects up to date and tell of them by places."""
        places = self.cast.places()
        for deed, owner, word, value in self.board.bring(self.entries()):
            place = places[owner] if owner in places else self.before[owner]
            self.told["log"].append((deed, place, word, value))
        self.before = places

    def instances(self):
        """The pairs of the place and the name of the component of each instance, in page order."""
        return [(place, self.cast.living[path].component.name) for path, place in self.cast.places().items()]

    def value(self, place, name):
        """The value of a name at the last drawing, of cells and answers as they are now."""
        path = self.cast.path_at(place)
        if path is None:
            raise NoInstance(place)
        instance = self.cast.living[path]
        if not isinstance(name, str) or name not in instance.drawn:
            raise NoName(name)
        return instance.state[name] if name in instance.state else instance.drawn[name]

    def armed(self):
        """The rows (place, word, value) of all armed effects, an instance behind those beneath it."""
        values = {(owner, word): value for owner, word, value in self.board.armed()}
        return [(self.cast.place_of(path), word, values[(path, word)]) for path, word, _, _ in self.entries()]

    def questions(self):
        """The rows (place, word, question) of all open questions; no place where the asking instance is gone."""
        rows = []
        for entry in self.line.entries():
            place = self.cast.place_of(entry.owner) if self.asked_by(entry) else None
            rows.append((place, entry.word, entry.question))
        return rows

    def asked_by(self, entry):
        """Whether the instance that is now at the owner's path asked this."""
        return entry.owner in self.cast.living and self.cast.living[entry.owner].who == entry.who

    def look(self):
        """The page, the number of the button with the focus, the armed effects and the open questions."""
        at = None if self.focus.at is None else buttons(self.sheet).index(self.focus.at)
        return (self.sheet.shown, at, tuple(self.armed()), tuple(self.questions()))

    def questions_told(self):
        """What likeness tells of the open questions."""
        rows = []
        for entry in self.line.entries():
            last = None
            if entry.owner in self.cast.living:
                last = self.cast.living[entry.owner].asked[entry.word]
            rows.append((
                entry.owner, entry.word, entry.question, entry.answer, self.asked_by(entry),
                last is not None and last[1] == entry.ticket,
            ))
        return tuple(rows)
